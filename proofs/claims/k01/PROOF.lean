import PyProof.Rows.All
import Wide.All
import OpenK.AllK
import Wide.FinOn
import HandS.ForMost
import HandS.Evl
import HandS.Wide
import HandS.Star
import HandS.Property
import HandS.IsInst
import HandS.ExcInit
import HandS.TryOnly
import HandS.ExcField
import HandS.TupAny
import HandS.Deep
import HandS.Conv
import HandS.Flow
import HandS.Style
import HandS.Walk
import HandS.Zip
import HandS.TupLe
import KE.KExcIs
import HandS.ExcValue
import HandS.ExcIs
import PySem.Challenge.RW_lookrows_k01_errors_made
set_option Elab.async false
set_option linter.all false
set_option maxRecDepth 100000
namespace Lk
open PySem L2
/-- what was tracked stands, but what is listed, which is tracked still -/
def Kp (ms : List Addr) (H H' : Hp) : Prop := ∀ b o, H b = some o → (b ∉ ms ∧ H' b = some o) ∨ (b ∈ ms ∧ ∃ o', H' b = some o')
theorem Kp.refl (ms : List Addr) (H : Hp) : Kp ms H H := fun b o e => by
  by_cases h : b ∈ ms
  · exact .inr ⟨h, o, e⟩
  · exact .inl ⟨h, e⟩
theorem Kp.trans {ms : List Addr} {H H1 H2 : Hp} (a : Kp ms H H1) (c : Kp ms H1 H2) : Kp ms H H2 := fun b o e => by
  rcases a b o e with ⟨h, q⟩ | ⟨h, o', q⟩
  · exact c b o q
  · rcases c b o' q with ⟨h', _⟩ | ⟨_, z⟩
    · exact absurd h h'
    · exact .inr ⟨h, z⟩
theorem Kp.at {ms : List Addr} {H H' : Hp} {b : Addr} {o : HO} (k : Kp ms H H') (e : H b = some o) (n : b ∉ ms) : H' b = some o := by
  rcases k b o e with ⟨_, q⟩ | ⟨h, _⟩
  · exact q
  · exact absurd h n
theorem Kp.mono {ms ns : List Addr} {H H' : Hp} (k : Kp ms H H') (h : ∀ b ∈ ms, b ∈ ns) : Kp ns H H' := fun b o e => by
  rcases k b o e with ⟨n, q⟩ | ⟨n, o', q⟩
  · by_cases hb : b ∈ ns
    · exact .inr ⟨hb, o, q⟩
    · exact .inl ⟨hb, q⟩
  · exact .inr ⟨h b n, o', q⟩
theorem Kp.free {ms : List Addr} {H H' : Hp} {l : Addr} (k : Kp ms H H') (h : H' l = none) : H l = none := by
  cases q : H l with
  | none => rfl
  | some o =>
    rcases k l o q with ⟨_, z⟩ | ⟨_, o', z⟩
    · rw [z] at h; cases h
    · rw [z] at h; cases h
theorem Kp.new {ms : List Addr} {H H' : Hp} {p : Addr} {o : HO} (k : Kp ms H H') (h : H' p = none) : Kp ms H (upd H' p o) := fun b u e => by
  rcases k b u e with ⟨n, q⟩ | ⟨n, o', q⟩
  · exact .inl ⟨n, by rw [upd_ne (ne_of_none q h)]; exact q⟩
  · exact .inr ⟨n, o', by rw [upd_ne (ne_of_none q h)]; exact q⟩
/-- a listed one is changed, or one that is new since -/
theorem Kp.put {ms : List Addr} {H H' : Hp} {p : Addr} {o : HO} (k : Kp ms H H') (h : p ∈ ms ∨ H p = none) : Kp ms H (upd H' p o) := fun b u e => by
  by_cases hb : b = p
  · subst hb
    rcases h with h | h
    · exact .inr ⟨h, o, upd_same⟩
    · rw [h] at e; cases e
  · rcases k b u e with ⟨n, q⟩ | ⟨n, o', q⟩
    · exact .inl ⟨n, by rw [upd_ne hb]; exact q⟩
    · exact .inr ⟨n, o', by rw [upd_ne hb]; exact q⟩
theorem atI3 {α : Type} {a b c : α} : atI [a, b, c] 0 = some a ∧ atI [a, b, c] 1 = some b ∧ atI [a, b, c] 2 = some c := ⟨rfl, rfl, rfl⟩
/-! ### the pool of draws -/
def Pool (H : Hp) (p : Addr) (n : Nat) : Prop := ∃ a b c : Int, H p = some (.lst [.int a, .int b, .int c]) ∧ 0 ≤ a ∧ 0 ≤ b ∧ b < 1000000007 ∧ 0 ≤ c ∧ c ≤ (n : Int)
theorem Pool.mono {H : Hp} {p : Addr} {n m : Nat} (h : Pool H p n) (l : n ≤ m) : Pool H p m := by
  obtain ⟨a, b, c, e, h1, h2, h3, h4, h5⟩ := h
  exact ⟨a, b, c, e, h1, h2, h3, h4, by omega⟩
/-! ### rules whose new heaps are told by what they hold -/
section
variable {X : Cx} {K : PySem.W.Frag}
theorem opImp {f : Value → Value → Sem Value} {r r' : R2} (h : OpR X f r) (i : ∀ x y H Q, r' x y H Q → r x y H Q) : OpR X f r' := fun pins s σ H x y v u Q I rx ry q => h pins s σ H x y v u Q I rx ry (i x y H Q q)
theorem callImp {f : Value} {r r' : List V → Hp → VK → Prop} (h : CallR X f r) (i : ∀ xs H Q, r' xs H Q → r xs H Q) : CallR X f r' := fun pins s σ H xs us Q I rx q => h pins s σ H xs us Q I rx (i xs H Q q)
theorem slImp {r r' : V → Option Int → Option Int → Hp → VK → Prop} (h : SlR X r) (i : ∀ x l u H Q, r' x l u H Q → r x l u H Q) : SlR X r' := fun pins s σ H x v vl vu lo hi sl Q I rx hs pl pu q => h pins s σ H x v vl vu lo hi sl Q I rx hs pl pu (i _ _ _ _ _ q)
theorem mtImp {id : String} {r r' : V → List V → Hp → VK → Prop} (h : MtM X id r) (i : ∀ x vs H Q, r' x vs H Q → r x vs H Q) : MtM X id r' := fun pins s σ H x xs v us Q I rx rv q => h pins s σ H x xs v us Q I rx rv (i _ _ _ _ q)
theorem newK {H : Hp} {o : HO} {Q : VK} (h : ∀ p H2, H p = none → H2 p = some o → Kp [] H H2 → Q (.ref p) H2) : ∀ p, H p = none → Q (.ref p) (upd H p o) := fun p hp => h p _ hp upd_same ((Kp.refl [] H).new hp)
def tLstK (t : TA) : TE := fun σ H Q => t σ H fun xs H1 => xs.length ≤ sizeLine ∧ ∀ p H2, H1 p = none → H2 p = some (.lst xs) → Kp [] H1 H2 → Q (.ref p) H2
def tTupK (t : TA) : TE := fun σ H Q => t σ H fun xs H1 => xs.length ≤ sizeLine ∧ ∀ p H2, H1 p = none → H2 p = some (.tup xs) → Kp [] H1 H2 → Q (.ref p) H2
theorem pe_lstK {es : List Expr} {t : TA} {pos : Pos} (h : PA X es t) : PE X (.List es pos) (tLstK t) := by
  refine ⟨fun pins s σ H Q I hq => ?_⟩
  refine wpAny_List_spliced (thn (h.run pos pins s σ H _ I hq) fun us s1 ⟨xs, H1, I1, r, z, q⟩ => ⟨by rw [← r.length]; exact z, ?_⟩)
  have hf : H1 s1.heap.objs.size = none := I1.hok.fresh (Nat.le_refl _)
  refine ⟨.ref s1.heap.objs.size, upd H1 s1.heap.objs.size (.lst xs), I1.laid (t' := s1.toks) (fun b u e => Heap.get?_push_of_some _ e) (Nat.le_refl _) ?_, rfl, q _ _ hf upd_same ((Kp.refl [] H1).new hf)⟩
  exact ⟨z, us, 0, r, Heap.get?_push_size _ rfl⟩
theorem pe_tupK {es : List Expr} {t : TA} {pos : Pos} {xk} (h : PA X es t) : PE X (.Tuple es xk pos) (tTupK t) := by
  refine ⟨fun pins s σ H Q I hq => ?_⟩
  refine wpAny_Tuple_spliced (thn (h.run pos pins s σ H _ I hq) fun us s1 ⟨xs, H1, I1, r, z, q⟩ => ⟨by rw [← r.length]; exact z, ?_⟩)
  have hf : H1 s1.heap.objs.size = none := I1.hok.fresh (Nat.le_refl _)
  refine ⟨.ref s1.heap.objs.size, upd H1 s1.heap.objs.size (.tup xs), I1.laid (t' := s1.toks) (fun b u e => Heap.get?_push_of_some _ e) (Nat.le_refl _) ?_, rfl, q _ _ hf upd_same ((Kp.refl [] H1).new hf)⟩
  exact ⟨z, us, r, ⟨_, Heap.get?_push_size _ rfl, rfl, _, rfl⟩⟩
def rCatK : R2 := fun x y H Q => ∃ l b xs zs, x = .ref l ∧ y = .ref b ∧ H l = some (.lst xs) ∧ H b = some (.lst zs) ∧ xs.length + zs.length ≤ sizeLine ∧ ∀ p H2, H p = none → H2 p = some (.lst (xs ++ zs)) → Kp [] H H2 → Q (.ref p) H2
theorem op_catK : OpR X (binaryOp .Add) rCatK := opImp op_cat fun _ _ _ _ ⟨l, b, xs, zs, h1, h2, h3, h4, h5, q⟩ => ⟨l, b, xs, zs, h1, h2, h3, h4, h5, newK q⟩
def rSlLK (K : PySem.W.Frag) : V → Option Int → Option Int → Hp → VK → Prop := fun x lo hi H Q => ∃ a xs, x = .ref a ∧ SqL K H a xs ∧ ∀ p H2, H p = none → H2 p = some (.lst (cutV xs lo hi)) → Kp [] H H2 → Q (.ref p) H2
theorem sl_listK : SlR X (rSlLK X.K) := slImp sl_list fun _ _ _ _ _ ⟨a, xs, h1, h2, q⟩ => ⟨a, xs, h1, h2, newK q⟩
def rAppendK : V → List V → Hp → VK → Prop := fun x vs H Q => ∃ l xs y, x = .ref l ∧ vs = [y] ∧ H l = some (.lst xs) ∧ xs.length < sizeLine ∧ ∀ H2, H2 l = some (.lst (xs ++ [y])) → Kp [l] H H2 → Q .non H2
theorem mt_appendK : MtM X "list.append" rAppendK := mtImp mt_append fun _ _ H _ ⟨l, xs, y, h1, h2, h3, h4, q⟩ => ⟨l, xs, y, h1, h2, h3, h4, q _ upd_same ((Kp.refl [l] H).put (.inl (List.mem_singleton.mpr rfl)))⟩
def rSetLK : V → V → V → Hp → (Hp → Prop) → Prop := fun o i v H Q => ∃ p xs k j, o = .ref p ∧ i = .int k ∧ H p = some (.lst xs) ∧ ixN xs.length k = some j ∧ ∀ H2, H2 p = some (.lst (xs.set j v)) → Kp [p] H H2 → Q H2
theorem set_listK : PSet X rSetLK := fun pins s σ H o i v ov iv u Q I ro ri rv ⟨p, xs, k, j, h1, h2, h3, h4, q⟩ => set_list pins s σ H o i v ov iv u Q I ro ri rv ⟨p, xs, k, j, h1, h2, h3, h4, q _ upd_same ((Kp.refl [p] H).put (.inl (List.mem_singleton.mpr rfl)))⟩
/-- len, the number in the form that one wants -/
def rLenK (K : PySem.W.Frag) : List V → Hp → VK → Prop := fun xs H Q => ∃ p ys, ∃ n : Int, xs = [.ref p] ∧ (SqL K H p ys ∨ SqT K H p ys) ∧ (ys.length : Int) = n ∧ Q (.int n) H
theorem call_lenK : CallR X (.builtin "len") (rLenK X.K) := callImp call_len_seq fun _ _ _ ⟨p, ys, n, h1, h2, h3, q⟩ => ⟨p, ys, h1, h2, by subst h3; exact q⟩
/-- int(i) of an int -/
theorem call_intK : CallR X (.type "int") (fun xs H Q => ∃ i, xs = [.int i] ∧ Q (.int i) H) := callImp call_int1 fun _ _ _ h => .inl h
end
theorem Kp.at0 {H H' : Hp} {b : Addr} {o : HO} (k : Kp [] H H') (e : H b = some o) : H' b = some o := k.at e (by simp)
theorem Kp.at1 {H H' : Hp} {b m : Addr} {o : HO} (k : Kp [m] H H') (e : H b = some o) (n : b ≠ m) : H' b = some o := k.at e (by simpa using n)
theorem Kp.at2 {H H' : Hp} {b m1 m2 : Addr} {o : HO} (k : Kp [m1, m2] H H') (e : H b = some o) (n1 : b ≠ m1) (n2 : b ≠ m2) : H' b = some o := k.at e (by simp [n1, n2])
/-- one more step: what it changes is listed, or new since -/
theorem Kp.step {ms ns : List Addr} {H H1 H2 : Hp} (k : Kp ms H H1) (c : Kp ns H1 H2) (h : ∀ b ∈ ns, b ∈ ms ∨ H b = none) : Kp ms H H2 := fun b o e => by
  rcases k b o e with ⟨n, q⟩ | ⟨n, o', q⟩
  · rcases c b o q with ⟨_, z⟩ | ⟨hb, _⟩
    · exact .inl ⟨n, z⟩
    · rcases h b hb with z | z
      · exact absurd z n
      · rw [z] at e; cases e
  · rcases c b o' q with ⟨_, z⟩ | ⟨_, o2, z⟩
    · exact .inr ⟨n, o', z⟩
    · exact .inr ⟨n, o2, z⟩
theorem Kp.step0 {ms : List Addr} {H H1 H2 : Hp} (k : Kp ms H H1) (c : Kp [] H1 H2) : Kp ms H H2 := k.step c fun b h => nomatch h
/-- an item of a mapped list -/
theorem atI_list {α : Type} {xs : List α} {i : Int} (h0 : 0 ≤ i) (h1 : i < (xs.length : Int)) : ∃ x, xs[i.toNat]? = some x ∧ atI xs i = some x := by
  obtain ⟨k, rfl⟩ := Int.eq_ofNat_of_zero_le h0
  have hk : k < xs.length := by omega
  have e : xs[k]? = some xs[k] := List.getElem?_eq_getElem hk
  exact ⟨xs[k], e, atI_nat e⟩
theorem atI_map {α : Type} {f : α → V} {xs : List α} {i : Int} (h0 : 0 ≤ i) (h1 : i < (xs.length : Int)) : ∃ x, xs[i.toNat]? = some x ∧ atI (xs.map f) i = some (f x) := by
  obtain ⟨k, rfl⟩ := Int.eq_ofNat_of_zero_le h0
  have hk : k < xs.length := by omega
  have e : xs[k]? = some xs[k] := List.getElem?_eq_getElem hk
  exact ⟨xs[k], e, atI_nat (by rw [List.getElem?_map, e] <;> rfl)⟩
theorem Pool.at {H H' : Hp} {p : Addr} {n : Nat} {ms : List Addr} (h : Pool H p n) (k : Kp ms H H') (q : p ∉ ms) : Pool H' p n := by
  obtain ⟨a, b, c, e, z⟩ := h
  exact ⟨a, b, c, k.at e q, z⟩
/-! ### promises -/
def spCell (K : PySem.W.Frag) : Sp := fun vs H Q _ => ∃ (a : Addr) (ns : List Int) (k : Nat), vs = [.ref a, .int k] ∧ SqL K H a (ns.map V.int) ∧ ∀ x : Int, Q (.int x) H
def spPool : Sp := fun vs H Q _ => ∃ x : Int, vs = [.int x] ∧ ∀ p H', Kp [] H H' → H p = none → Pool H' p 0 → Q (.ref p) H'
def spTake : Sp := fun vs H Q _ => ∃ (p : Addr) (m : Int) (n : Nat), vs = [.ref p, .int m] ∧ Pool H p n ∧ 0 < m ∧ m < 1000000 ∧ n ≤ 1000000 ∧ ∀ (r : Int) H', 0 ≤ r → r < m → Kp [p] H H' → Pool H' p (n + 1) → Q (.int r) H'
end Lk
set_option Elab.async false
set_option linter.all false
set_option maxRecDepth 100000
namespace Lk
open PySem L2
theorem ifT {b : Bool} {A B : Prop} (hb : b = true) (h : A) : if b = true then A else B := by subst hb; exact h
theorem ifF {b : Bool} {A B : Prop} (hb : b = false) (h : B) : if b = true then A else B := by subst hb; exact h
theorem getMap {α β : Type} {f : α → β} {xs : List α} {i : Nat} {x : β} (h : (xs.map f)[i]? = some x) : ∃ y, xs[i]? = some y ∧ x = f y := by
  rw [List.getElem?_map] at h
  cases e : xs[i]? with
  | none => rw [e] at h; cases h
  | some y => rw [e] at h; exact ⟨y, rfl, (Option.some.inj h).symm⟩
theorem lt_of_get {α : Type} {xs : List α} {i : Nat} {x : α} (h : xs[i]? = some x) : i < xs.length := (List.getElem?_eq_some_iff.mp h).1
theorem updK {G : Hp → Prop} {H : Hp} {D : Addr} {o : HO} (h : ∀ H5, H5 D = some o → Kp [D] H H5 → G H5) : G (upd H D o) := h _ upd_same ((Kp.refl [D] H).put (.inl (List.mem_singleton.mpr rfl)))
theorem updN {G : Hp → Prop} {H : Hp} {D : Addr} {o : HO} (hn : H D = none) (h : ∀ H5, H5 D = some o → Kp [] H H5 → G H5) : G (upd H D o) := h _ upd_same ((Kp.refl [] H).new hn)
theorem slen {n : Nat} (h : n ≤ 16777216) : n ≤ sizeLine := by rw [sizeLine_eq]; exact h
theorem slenlt {n : Nat} (h : n < 16777216) : n < sizeLine := by rw [sizeLine_eq]; exact h
/-! ### texts as lists of signs -/
def ch (s : Str) : List Nat := s.cps.toList
theorem len_ch (s : Str) : s.length = (ch s).length := by unfold ch Str.length; rw [Array.length_toList]
theorem ch_append (a b : Str) : ch (a ++ b) = ch a ++ ch b := by
  show (a.cps ++ b.cps).toList = _
  rw [Array.toList_append]; rfl
theorem ch_one (c : Nat) : ch ⟨#[c]⟩ = [c] := rfl
theorem ch_ext {a b : Str} (h : ch a = ch b) : a = b := by
  cases a with | mk x => cases b with | mk y =>
    have : x.toList = y.toList := h
    rw [Array.toList_inj.mp this]
theorem len_append (a b : Str) : (a ++ b).length = a.length + b.length := by rw [len_ch, len_ch, len_ch, ch_append, List.length_append]
theorem len_one (c : Nat) : Str.length ⟨#[c]⟩ = 1 := rfl
theorem ch_to (z : Str) {k : Int} (h : 0 ≤ k) : ch (cutS z none (some k)) = (ch z).take k.toNat := by
  obtain ⟨n, rfl⟩ := Int.eq_ofNat_of_zero_le h
  show ((z.cps.toList.drop (HT.sIx z.length 0 none)).take (HT.sIx z.length z.length (some ((n : Nat) : Int)) - HT.sIx z.length 0 none)).toArray.toList = _
  rw [List.toList_toArray, HT.sIx_none, HT.sIx_nat]
  show List.take (min n z.length - 0) (ch z) = _
  rw [Nat.sub_zero, len_ch, Int.toNat_natCast]
  by_cases c : n ≤ (ch z).length
  · rw [Nat.min_eq_left c]
  · rw [Nat.min_eq_right (by omega), List.take_of_length_le (Nat.le_refl _), List.take_of_length_le (by omega)]
theorem ch_from (z : Str) {k : Int} (h : 0 ≤ k) : ch (cutS z (some k) none) = (ch z).drop k.toNat := by
  obtain ⟨n, rfl⟩ := Int.eq_ofNat_of_zero_le h
  show ((z.cps.toList.drop (HT.sIx z.length 0 (some ((n : Nat) : Int)))).take (HT.sIx z.length z.length none - HT.sIx z.length 0 (some ((n : Nat) : Int)))).toArray.toList = _
  rw [List.toList_toArray, HT.sIx_none, HT.sIx_nat]
  show List.take (z.length - min n z.length) (List.drop (min n z.length) (ch z)) = _
  rw [len_ch, Int.toNat_natCast]
  by_cases c : n ≤ (ch z).length
  · rw [Nat.min_eq_left c, List.take_of_length_le (by rw [List.length_drop]; exact Nat.le_refl _)]
  · rw [Nat.min_eq_right (by omega), List.drop_of_length_le (Nat.le_refl _), List.drop_of_length_le (by omega), List.take_nil]
theorem atS {z : Str} {i : Int} (h0 : 0 ≤ i) (h1 : i < (z.length : Int)) : ∃ c, (ch z)[i.toNat]? = some c ∧ atI z.cps.toList i = some c := atI_list (xs := ch z) h0 (by rw [← len_ch]; exact h1)
def isLet (c : Nat) : Bool := 97 ≤ c && c ≤ 122
def isAl (c : Nat) : Bool := isLet c || (48 ≤ c && c ≤ 57)
theorem al_of_let {c : Nat} (h : isLet c = true) : isAl c = true := by unfold isAl; rw [h]; rfl
/-- a name: a letter, then at most seven letters and digits -/
def Nm (s : Str) : Prop := ∃ c r, ch s = c :: r ∧ isLet c = true ∧ (∀ x ∈ r, isAl x = true) ∧ r.length ≤ 7
/-- a word that grows: its first sign and i more -/
def Wd (s : Str) (i : Nat) : Prop := ∃ c r, ch s = c :: r ∧ isLet c = true ∧ (∀ x ∈ r, isAl x = true) ∧ r.length = i
def lets : List Nat := [97, 98, 99, 100, 101, 102, 103, 104, 105, 106, 107, 108, 109, 110, 111, 112, 113, 114, 115, 116, 117, 118, 119, 120, 121, 122]
def als : List Nat := lets ++ [48, 49, 50, 51, 52, 53, 54, 55, 56, 57]
theorem ch_lets : ch ("abcdefghijklmnopqrstuvwxyz" : Str) = lets := by decide +kernel
theorem ch_als : ch (("abcdefghijklmnopqrstuvwxyz" : Str) ++ ("0123456789" : Str)) = als := by decide +kernel
theorem len_lets : Str.length ("abcdefghijklmnopqrstuvwxyz" : Str) = 26 := by decide +kernel
theorem len_als : Str.length (("abcdefghijklmnopqrstuvwxyz" : Str) ++ ("0123456789" : Str)) = 36 := by decide +kernel
theorem let_at {c : Nat} {i : Nat} (h : (ch ("abcdefghijklmnopqrstuvwxyz" : Str))[i]? = some c) : isLet c = true := by
  rw [ch_lets] at h
  have q : ∀ x ∈ lets, isLet x = true := by decide +kernel
  exact q c (List.mem_of_getElem? h)
theorem al_at {c : Nat} {i : Nat} (h : (ch (("abcdefghijklmnopqrstuvwxyz" : Str) ++ ("0123456789" : Str)))[i]? = some c) : isAl c = true := by
  rw [ch_als] at h
  have q : ∀ x ∈ als, isAl x = true := by decide +kernel
  exact q c (List.mem_of_getElem? h)
theorem Wd.one {c : Nat} (h : isLet c = true) : Wd ⟨#[c]⟩ 0 := ⟨c, [], rfl, h, (fun x z => absurd z List.not_mem_nil), rfl⟩
theorem Wd.more {s : Str} {i : Nat} {c : Nat} (w : Wd s i) (h : isAl c = true) : Wd (s ++ ⟨#[c]⟩) (i + 1) := by
  obtain ⟨a, r, e, h1, h2, h3⟩ := w
  refine ⟨a, r ++ [c], by rw [ch_append, e, ch_one]; rfl, h1, fun x hx => ?_, by rw [List.length_append, h3]; rfl⟩
  rcases List.mem_append.mp hx with q | q
  · exact h2 x q
  · rw [List.mem_singleton.mp q]; exact h
theorem Wd.len {s : Str} {i : Nat} (w : Wd s i) : s.length = i + 1 := by
  obtain ⟨a, r, e, _, _, h3⟩ := w
  rw [len_ch, e, List.length_cons, h3]
/-- the ways to make names: ss holds them -/
def Nms (ss : List Str) : Prop := ss.Nodup ∧ ∀ s ∈ ss, Nm s
theorem nodup_of_get {α : Type} {xs : List α} (h : ∀ (i j : Nat) (x : α), xs[i]? = some x → xs[j]? = some x → i = j) : xs.Nodup := by
  rw [List.nodup_iff_pairwise_ne, List.pairwise_iff_getElem]
  intro i j hi hj hij e
  have e1 : xs[i]? = some xs[i] := List.getElem?_eq_getElem hi
  have e2 : xs[j]? = some xs[i] := by rw [List.getElem?_eq_getElem hj, e]
  have := h i j xs[i] e1 e2
  omega
theorem get_inj {α : Type} {xs : List α} (hn : xs.Nodup) {i j : Nat} {x : α} (h1 : xs[i]? = some x) (h2 : xs[j]? = some x) : i = j := (List.getElem?_inj (lt_of_get h1) hn).mp (h1.trans h2.symm)
/-- beginnings of one word -/
theorem nms_takes {w : Str} {ss : List Str} (hw : Wd w 7) (hl : ss.length ≤ 8) (h : ∀ (j : Nat) s, ss[j]? = some s → ch s = (ch w).take (j + 1)) : Nms ss := by
  obtain ⟨c, r, e, h1, h2, h3⟩ := hw
  refine ⟨nodup_of_get fun i j x hi hj => ?_, fun s hs => ?_⟩
  · have a := h i x hi
    have b := h j x hj
    have li := lt_of_get hi
    have lj := lt_of_get hj
    have q : (List.take (i + 1) (ch w)).length = (List.take (j + 1) (ch w)).length := by rw [← a, ← b]
    rw [List.length_take, List.length_take, e, List.length_cons, h3] at q
    omega
  · obtain ⟨j, hj⟩ := List.getElem?_of_mem hs
    have a := h j s hj
    have lj := lt_of_get hj
    refine ⟨c, r.take j, by rw [a, e]; rfl, h1, fun x hx => h2 x (List.mem_of_mem_take hx), by rw [List.length_take]; omega⟩
/-- one sign changes within a stem -/
theorem nms_signs {pre post told : List Nat} {start : Nat} {ss : List Str} (hl : ss.length ≤ 8) (ht : told.Nodup) (hn : told.length = 26 ∨ told.length = 36)
    (h : ∀ (j : Nat) s, ss[j]? = some s → ∃ c, told[(start + 7 * j) % told.length]? = some c ∧ ch s = pre ++ c :: post)
    (hv : ∀ c ∈ told, ∃ a r, pre ++ c :: post = a :: r ∧ isLet a = true ∧ (∀ x ∈ r, isAl x = true) ∧ r.length ≤ 7) : Nms ss := by
  refine ⟨nodup_of_get fun i j x hi hj => ?_, fun s hs => ?_⟩
  · obtain ⟨a, ha, ea⟩ := h i x hi
    obtain ⟨b, hb, eb⟩ := h j x hj
    have li := lt_of_get hi
    have lj := lt_of_get hj
    rw [ea] at eb
    have eab : a = b := by
      have := List.append_cancel_left eb
      injection this
    rw [eab] at ha
    have la := lt_of_get ha
    have lb := lt_of_get hb
    have q : (start + 7 * i) % told.length = (start + 7 * j) % told.length := get_inj ht ha hb
    rcases hn with z | z <;> rw [z] at q <;> omega
  · obtain ⟨j, hj⟩ := List.getElem?_of_mem hs
    obtain ⟨c, hc, e⟩ := h j s hj
    obtain ⟨a, r, e2, h1, h2, h3⟩ := hv c (List.mem_of_getElem? hc)
    exact ⟨a, r, e.trans e2, h1, h2, h3⟩
end Lk
namespace Lk
open PySem L2
theorem all_snoc {α : Type} {P : Nat → α → Prop} {ss : List α} {i : Nat} {y : α} (h : ∀ (j : Nat) t, ss[j]? = some t → P j t) (hl : ss.length = i) (hy : P i y) : ∀ (j : Nat) t, (ss ++ [y])[j]? = some t → P j t := by
  intro j t e
  by_cases c : j < ss.length
  · rw [List.getElem?_append_left c] at e
    exact h j t e
  · rw [List.getElem?_append_right (by omega)] at e
    have q : j - ss.length = 0 := by
      have := lt_of_get e
      rw [List.length_singleton] at this
      omega
    rw [q] at e
    have e2 : y = t := Option.some.inj e
    have e3 : j = i := by omega
    subst e2; subst e3
    exact hy
/-- the signs of which one is put into a stem at the place pl -/
structure Told (t : Str) (pl : Int) : Prop where
  nd : (ch t).Nodup
  len : Str.length t = 26 ∨ Str.length t = 36
  ok : ∀ c ∈ ch t, isAl c = true ∧ (pl = 0 → isLet c = true)
theorem told_lets (pl : Int) : Told ("abcdefghijklmnopqrstuvwxyz" : Str) pl := by
  refine ⟨by rw [ch_lets]; decide +kernel, .inl len_lets, ?_⟩
  rw [ch_lets]
  intro c hc
  have q : ∀ x ∈ lets, isLet x = true := by decide +kernel
  exact ⟨al_of_let (q c hc), fun _ => q c hc⟩
theorem told_als {pl : Int} (h : ¬ pl = 0) : Told (("abcdefghijklmnopqrstuvwxyz" : Str) ++ ("0123456789" : Str)) pl := by
  refine ⟨by rw [ch_als]; decide +kernel, .inr len_als, ?_⟩
  rw [ch_als]
  intro c hc
  have q : ∀ x ∈ als, isAl x = true := by decide +kernel
  exact ⟨q c hc, fun z => absurd z h⟩
theorem Told.names {t w : Str} {k pl st : Int} {ss : List Str} (T : Told t pl) (hw : Wd w 7) (hk : 0 ≤ k) (hk7 : k < 8) (hp : 0 ≤ pl) (hpk : pl ≤ k) (hs : 0 ≤ st) (hl : ss.length ≤ 8)
    (h : ∀ (j : Nat) s, ss[j]? = some s → ∃ c, (ch t)[(st.toNat + 7 * j) % (ch t).length]? = some c ∧ ch s = (ch (cutS w none (some k))).take pl.toNat ++ c :: (ch (cutS w none (some k))).drop pl.toNat) : Nms ss := by
  obtain ⟨a, r, e, h1, h2, h3⟩ := hw
  refine nms_signs hl T.nd (by rw [← len_ch]; exact T.len) h fun c hc => ?_
  obtain ⟨o1, o2⟩ := T.ok c hc
  rw [ch_to _ hk, e]
  obtain ⟨k, rfl⟩ := Int.eq_ofNat_of_zero_le hk
  obtain ⟨pl, rfl⟩ := Int.eq_ofNat_of_zero_le hp
  rw [Int.toNat_natCast, Int.toNat_natCast]
  cases pl with
  | zero =>
    refine ⟨c, List.take k (a :: r), rfl, o2 rfl, fun x hx => ?_, by rw [List.length_take, List.length_cons, h3]; omega⟩
    rcases List.mem_cons.mp (List.mem_of_mem_take hx) with z | z
    · rw [z]; exact al_of_let h1
    · exact h2 x z
  | succ n =>
    have hk1 : k = (k - 1) + 1 := by omega
    rw [hk1]
    refine ⟨a, (List.take n (List.take (k - 1) r)) ++ c :: List.drop n (List.take (k - 1) r), rfl, h1, fun x hx => ?_, ?_⟩
    · rcases List.mem_append.mp hx with z | z
      · exact h2 x (List.mem_of_mem_take (List.mem_of_mem_take z))
      · rcases List.mem_cons.mp z with z | z
        · rw [z]; exact o1
        · exact h2 x (List.mem_of_mem_take (List.mem_of_mem_drop z))
    · rw [List.length_append, List.length_cons, List.length_take, List.length_drop, List.length_take, h3]
      omega
end Lk
namespace Lk
open PySem L2
theorem len_digits : Str.length ("0123456789" : Str) = 10 := by decide +kernel
theorem idx_mod {n : Nat} {s : Int} {k : Nat} (hs : 0 ≤ s) (hn : 0 < n) : Int.toNat ((s + 7 * (0 + (k : Int))) % (n : Int)) = (Int.toNat s + 7 * k) % n := by
  obtain ⟨a, rfl⟩ := Int.eq_ofNat_of_zero_le hs
  have e : ((a : Int) + 7 * (0 + (k : Int))) % (n : Int) = (((a + 7 * k) % n : Nat) : Int) := by
    rw [Int.natCast_emod]
    congr 1
    omega
  rw [e, Int.toNat_natCast, Int.toNat_natCast]
end Lk
namespace Lk
open PySem L2
theorem len_to (z : Str) {k : Int} (h : 0 ≤ k) : (cutS z none (some k)).length = min k.toNat z.length := by rw [len_ch, ch_to z h, List.length_take, len_ch]
theorem len_from (z : Str) {k : Int} (h : 0 ≤ k) : (cutS z (some k) none).length = z.length - k.toNat := by rw [len_ch, ch_from z h, List.length_drop, len_ch]
end Lk
set_option Elab.async false
set_option linter.all false
set_option maxRecDepth 100000
namespace Lk
open PySem L2
/-! ### (a, b) > (c, d) of ints -/
def pairGt (a b c d : Int) : Bool := if a = c then decide (d < b) else decide (c < a)
def rGtT (K : PySem.W.Frag) : R2 := fun u v H Q => ∃ (p q : Addr) (a b c d : Int), u = .ref p ∧ v = .ref q ∧ SqT K H p [.int a, .int b] ∧ SqT K H q [.int c, .int d] ∧ Q (.bl (pairGt a b c d)) H
theorem two_ints {a b : Int} {us : List Value} (r : Vals [V.int a, V.int b] us) : ∃ t t', us = [.int a t, .int b t'] := by
  cases r with | cons r1 r2 => cases r2 with | cons r3 r4 => cases r4; obtain ⟨t, rfl⟩ := r1; obtain ⟨t', rfl⟩ := r3; exact ⟨t, t', rfl⟩
theorem op_gtT {X : Cx} (hu : X.A.units < cLine) : OpR X (compareOp .Gt) (rGtT X.K) := by
  rintro pins s σ H _ _ v u Q I rx ry ⟨p, q, a, b, c, d, rfl, rfl, hp, hq, k⟩
  cases rx; cases ry
  obtain ⟨its, r1, p1, _⟩ := I.tuple hp; obtain ⟨its', r2, p2, _⟩ := I.tuple hq
  obtain ⟨t1, t2, rfl⟩ := two_ints r1; obtain ⟨t3, t4, rfl⟩ := two_ints r2
  have q1 : ∀ {x y : Int} {t t' : Tok}, SeqAt.EqAt X.A.in1 s (.int x t) (.int y t') (decide (x = y)) := fun {x y t t'} => by
    rw [← Bool.beq_eq_decide_eq]; exact SeqAt.EqAt.int_int _ _ _ _
  have R := Ob.RcOp.tuples_gt (A := X.A) (s := s) (e := fun j => if j = 0 then decide (a = c) else decide (b = d)) (r := fun j => if j = 0 then decide (c < a) else decide (d < b)) p1 p2 hu
    (fun j h1 h2 => match j, h1, h2 with | 0, _, _ => q1 | 1, _, _ => q1 | n + 2, h, _ => absurd h (by simp)) (fun j h1 h2 _ => match j, h1, h2 with | 0, _, _ => Ob.RcOp.gt_int _ _ _ _ | 1, _, _ => Ob.RcOp.gt_int _ _ _ _ | n + 2, h, _ => absurd h (by simp))
  refine R X.prog X.w X.xe _ ⟨.bl _, H, I, rfl, ?_⟩
  have e : Ob.lexAt (fun j => if j = 0 then decide (a = c) else decide (b = d)) (fun j => if j = 0 then decide (c < a) else decide (d < b)) (decide (2 > 2)) 0 2 = pairGt a b c d := by
    unfold pairGt
    show (if decide (a = c) = true then (if decide (b = d) = true then decide (2 > 2) else decide (d < b)) else decide (c < a)) = _
    by_cases h : a = c
    · rw [if_pos (decide_eq_true h), if_pos h]
      by_cases h2 : b = d
      · rw [if_pos (decide_eq_true h2), h2]; simp
      · rw [if_neg (by simpa using h2)]
    · rw [if_neg (by simpa using h), if_neg h]
  exact e ▸ k
/-! ### lists of objects: each one is told by φ, and stands apart from ms -/
abbrev Tell (α : Type) := Hp → Addr → α → Prop
def Stab {α : Type} (φ : Tell α) : Prop := ∀ H H' p x, (∀ o, H p = some o → H' p = some o) → φ H p x → φ H' p x
def LIn {α : Type} (φ : Tell α) (H : Hp) (ps : List Addr) (xs : List α) (ms : List Addr) : Prop := ps.length = xs.length ∧ ∀ (i : Nat) p x, ps[i]? = some p → xs[i]? = some x → p ∉ ms ∧ φ H p x
def Lst {α : Type} (φ : Tell α) (H : Hp) (a : Addr) (xs : List α) (ms : List Addr) : Prop := ∃ ps : List Addr, H a = some (.lst (ps.map V.ref)) ∧ LIn φ H ps xs ms
def tS : Tell (List Str) := fun H p r => H p = some (.lst (r.map V.str))
def tR : Tell (Str × Str × Int) := fun H p r => H p = some (.tup [.str r.1, .str r.2.1, .int r.2.2])
theorem tS_st : Stab tS := fun _ _ _ _ k h => k _ h
theorem tR_st : Stab tR := fun _ _ _ _ k h => k _ h
section
variable {α : Type} {φ : Tell α} {H H' : Hp} {a : Addr} {ps : List Addr} {xs : List α} {ms ns : List Addr}
theorem LIn.kp (st : Stab φ) (h : LIn φ H ps xs ms) (k : Kp ns H H') (hs : ∀ n ∈ ns, n ∈ ms) : LIn φ H' ps xs ms := ⟨h.1, fun i p x h1 h2 => by
  obtain ⟨n, q⟩ := h.2 i p x h1 h2
  exact ⟨n, st H H' p x (fun o e => k.at e (fun z => n (hs p z))) q⟩⟩
theorem Lst.kp (st : Stab φ) (h : Lst φ H a xs ms) (k : Kp ns H H') (ha : a ∉ ns) (hs : ∀ n ∈ ns, n ∈ ms) : Lst φ H' a xs ms := by
  obtain ⟨ps, e, q⟩ := h
  exact ⟨ps, k.at e ha, q.kp st k hs⟩
theorem LIn.at (h : LIn φ H ps xs ms) {i : Nat} {p : Addr} (e : ps[i]? = some p) : ∃ x, xs[i]? = some x ∧ p ∉ ms ∧ φ H p x := by
  have l := lt_of_get e
  rw [h.1] at l
  have e2 : xs[i]? = some xs[i] := List.getElem?_eq_getElem l
  exact ⟨xs[i], e2, h.2 i p _ e e2⟩
theorem LIn.snoc (h : LIn φ H ps xs ms) {p : Addr} {x : α} (n : p ∉ ms) (q : φ H p x) : LIn φ H (ps ++ [p]) (xs ++ [x]) ms := by
  refine ⟨by simp [h.1], fun i r y h1 h2 => ?_⟩
  by_cases c : i < ps.length
  · rw [List.getElem?_append_left c] at h1
    rw [List.getElem?_append_left (by have := h.1; omega)] at h2
    exact h.2 i r y h1 h2
  · rw [List.getElem?_append_right (by omega)] at h1
    rw [List.getElem?_append_right (by have := h.1; omega)] at h2
    have z : i - ps.length = 0 := by have := lt_of_get h1; simp at this; omega
    rw [z] at h1
    rw [show i - xs.length = 0 by have := h.1; omega] at h2
    cases Option.some.inj h1; cases Option.some.inj h2
    exact ⟨n, q⟩
theorem LIn.nil : LIn φ H [] ([] : List α) ms := ⟨rfl, fun i p x h => by simp at h⟩
theorem LIn.mono (h : LIn φ H ps xs ms) (hs : ∀ n ∈ ns, n ∈ ms) : LIn φ H ps xs ns := ⟨h.1, fun i p x h1 h2 => ⟨fun z => (h.2 i p x h1 h2).1 (hs p z), (h.2 i p x h1 h2).2⟩⟩
theorem Lst.mono (h : Lst φ H a xs ms) (hs : ∀ n ∈ ns, n ∈ ms) : Lst φ H a xs ns := by
  obtain ⟨ps, e, q⟩ := h
  exact ⟨ps, e, q.mono hs⟩
/-- what is told holds of an address that is tracked: one that is free is none of them -/
theorem LIn.ext (tr : ∀ p x, φ H p x → H p ≠ none) (h : LIn φ H ps xs ms) {m : Addr} (hm : H m = none) : LIn φ H ps xs (m :: ms) := ⟨h.1, fun i p x h1 h2 => by
  obtain ⟨n, q⟩ := h.2 i p x h1 h2
  refine ⟨fun z => ?_, q⟩
  rcases List.mem_cons.mp z with z | z
  · rw [z] at q; exact tr _ _ q hm
  · exact n z⟩
theorem LIn.take (h : LIn φ H ps xs ms) (n : Nat) : LIn φ H (ps.take n) (xs.take n) ms := ⟨by simp [h.1], fun i p x h1 h2 => by
  rw [List.getElem?_take] at h1 h2
  by_cases c : i < n
  · rw [if_pos c] at h1 h2; exact h.2 i p x h1 h2
  · rw [if_neg c] at h1; cases h1⟩
end
theorem tS_tr (H : Hp) (p : Addr) (x : List Str) (h : tS H p x) : H p ≠ none := fun z => by
  have : H p = some (.lst (x.map V.str)) := h
  rw [z] at this; cases this
theorem tR_tr (H : Hp) (p : Addr) (x : Str × Str × Int) (h : tR H p x) : H p ≠ none := fun z => by
  have : H p = some (.tup [.str x.1, .str x.2.1, .int x.2.2]) := h
  rw [z] at this; cases this
theorem cutV_to {α : Type} (f : α → V) (xs : List α) {k : Int} (h : 0 ≤ k) : cutV (xs.map f) none (some k) = (xs.take k.toNat).map f := by
  obtain ⟨n, rfl⟩ := Int.eq_ofNat_of_zero_le h
  unfold cutV
  rw [HT.sIx_none, HT.sIx_nat, Int.toNat_natCast, List.length_map]
  show List.take (min n xs.length - 0) (xs.map f) = _
  rw [Nat.sub_zero, List.map_take]
  by_cases c : n ≤ xs.length
  · rw [Nat.min_eq_left c]
  · rw [Nat.min_eq_right (by omega), List.take_of_length_le (by simp), List.take_of_length_le (by simp; omega)]
theorem cutV_from {α : Type} (f : α → V) (xs : List α) {k : Int} (h : 0 ≤ k) : cutV (xs.map f) (some k) none = (xs.drop k.toNat).map f := by
  obtain ⟨n, rfl⟩ := Int.eq_ofNat_of_zero_le h
  unfold cutV
  rw [HT.sIx_none, HT.sIx_nat, Int.toNat_natCast, List.length_map]
  by_cases c : n ≤ xs.length
  · rw [Nat.min_eq_left c, List.take_of_length_le (by simp), List.map_drop]
  · rw [Nat.min_eq_right (by omega), List.drop_of_length_le (by simp), List.take_nil, List.drop_of_length_le (by omega)]; rfl
theorem Nms.sub {ss ts : List Str} (h : Nms ss) (s : ts.Sublist ss) : Nms ts := ⟨h.1.sublist s, fun x hx => h.2 x (s.subset hx)⟩
theorem Nms.rev {ss : List Str} (h : Nms ss) : Nms ss.reverse := ⟨List.pairwise_reverse.mpr (h.1.imp fun z => Ne.symm z), fun x hx => h.2 x (List.mem_reverse.mp hx)⟩
end Lk
namespace Lk
open PySem L2
abbrev Rows (H : Hp) (a : Addr) (rows : List (List Str)) (ms : List Addr) : Prop := Lst tS H a rows ms
abbrev RowsIn (H : Hp) (ps : List Addr) (rows : List (List Str)) (ms : List Addr) : Prop := LIn tS H ps rows ms
abbrev Rules (H : Hp) (a : Addr) (rs : List (Str × Str × Int)) (ms : List Addr) : Prop := Lst tR H a rs ms
abbrev RulesIn (H : Hp) (ps : List Addr) (rs : List (Str × Str × Int)) (ms : List Addr) : Prop := LIn tR H ps rs ms
theorem notMem1 {a m : Addr} (h : a ≠ m) : a ∉ [m] := by simpa using h
theorem notMem2 {a m n : Addr} (h : a ≠ m) (h2 : a ≠ n) : a ∉ [m, n] := by simp [h, h2]
theorem notMem3 {a m n o : Addr} (h : a ≠ m) (h2 : a ≠ n) (h3 : a ≠ o) : a ∉ [m, n, o] := by simp [h, h2, h3]
theorem notMem4 {a m n o p : Addr} (h : a ≠ m) (h2 : a ≠ n) (h3 : a ≠ o) (h4 : a ≠ p) : a ∉ [m, n, o, p] := by simp [h, h2, h3, h4]
theorem notMem5 {a m n o p q : Addr} (h : a ≠ m) (h2 : a ≠ n) (h3 : a ≠ o) (h4 : a ≠ p) (h5 : a ≠ q) : a ∉ [m, n, o, p, q] := by simp [h, h2, h3, h4, h5]
theorem notMem6 {a m n o p q r : Addr} (h : a ≠ m) (h2 : a ≠ n) (h3 : a ≠ o) (h4 : a ≠ p) (h5 : a ≠ q) (h6 : a ≠ r) : a ∉ [m, n, o, p, q, r] := by simp [h, h2, h3, h4, h5, h6]
/-- what a drawn list of rules keeps: ws the steps' ranks -/
structure RulesOk (ss : List Str) (ws : List Int) (rs : List (Str × Str × Int)) : Prop where
  each : ∀ r ∈ rs, ∃ i j : Nat, ss[i]? = some r.1 ∧ ss[j]? = some r.2.1 ∧ i ≠ j ∧ 0 ≤ r.2.2 ∧ r.2.2 ≤ 99 ∧ (r.2.2 = 0 → pairGt (ws.getD i 0) i (ws.getD j 0) j = false)
  nd : (rs.map fun r => (r.1, r.2.1)).Nodup
theorem RulesOk.nil {ss : List Str} {ws : List Int} : RulesOk ss ws [] := ⟨fun r h => absurd h List.not_mem_nil, List.Pairwise.nil⟩
def other (a b : Str) : Str × Str × Int → Bool := fun r => !decide ((r.1, r.2.1) = (a, b))
theorem RulesOk.put {ss : List Str} {ws : List Int} {rs : List (Str × Str × Int)} {a b : Str} {s f g : Int} (R : RulesOk ss ws rs) (hf : 0 ≤ f) (hg : 0 ≤ g) (ha : ss[f.toNat]? = some a) (hb : ss[g.toNat]? = some b) (ne : ¬ f = g)
    (s0 : 0 ≤ s) (s1 : s ≤ 99) (z : s = 0 → pairGt (ws.getD f.toNat 0) f (ws.getD g.toNat 0) g = false) : RulesOk ss ws (rs.filter (other a b) ++ [(a, b, s)]) := by
  refine ⟨fun r h => ?_, ?_⟩
  · rcases List.mem_append.mp h with q | q
    · exact R.each r (List.mem_filter.mp q).1
    · rw [List.mem_singleton.mp q]
      refine ⟨f.toNat, g.toNat, ha, hb, by omega, s0, s1, fun e => ?_⟩
      have := z e
      rw [show ((f.toNat : Nat) : Int) = f by omega, show ((g.toNat : Nat) : Int) = g by omega]
      exact this
  · rw [List.map_append, List.nodup_append]
    refine ⟨R.nd.sublist (List.filter_sublist.map _), by simp, fun x hx y hy e => ?_⟩
    obtain ⟨r, hr, rfl⟩ := List.mem_map.mp hx
    have q := (List.mem_filter.mp hr).2
    simp only [List.map_cons, List.map_nil, List.mem_singleton] at hy
    rw [hy] at e
    unfold other at q
    rw [decide_eq_true e] at q
    exact Bool.noConfusion q
theorem pairGt_swap {a b c d : Int} (h : pairGt a b c d = true) : pairGt c d a b = false := by
  unfold pairGt at h ⊢
  by_cases e : a = c
  · rw [if_pos e] at h; rw [if_pos e.symm]
    have := of_decide_eq_true h
    exact decide_eq_false (by omega)
  · rw [if_neg e] at h; rw [if_neg (fun z => e z.symm)]
    have := of_decide_eq_true h
    exact decide_eq_false (by omega)
theorem getD_of {ws : List Int} {i : Nat} {x : Int} (h : ws[i]? = some x) : ws.getD i 0 = x := by rw [List.getD_eq_getElem?_getD, h]; rfl
theorem filter_take {α : Type} {p : α → Bool} {xs : List α} {i : Nat} {x : α} (h : xs[i]? = some x) : (xs.take (i + 1)).filter p = (xs.take i).filter p ++ (if p x = true then [x] else []) := by
  rw [List.take_add_one, h, List.filter_append]
  congr 1
  by_cases c : p x = true
  · rw [if_pos c]; simp [c]
  · rw [if_neg c]; simp [c]
theorem flat_snoc (rows : List (List Str)) (r : List Str) : (rows ++ [r]).flatten = rows.flatten ++ r := by simp
/-! ### data, for == -/
theorem dp_str {K : PySem.W.Frag} {H : Hp} (ss : List Str) : DpAll K H (ss.map V.str) (ss.map PyData.str) := by
  induction ss with
  | nil => exact .nil
  | cons x r ih => exact .cons (.str x) ih
theorem dp_strs {K : PySem.W.Frag} {H : Hp} {a : Addr} {ss : List Str} (h : H a = some (.lst (ss.map V.str))) : Dp K H (.ref a) (.list (ss.map PyData.str)) := .lst (SqL.of h) (dp_str ss)
theorem dp_strT {K : PySem.W.Frag} {H : Hp} {a : Addr} {ss : List Str} (h : H a = some (.tup (ss.map V.str))) : Dp K H (.ref a) (.tuple (ss.map PyData.str)) := .tup (SqT.of h) (dp_str ss)
end Lk
namespace Lk
open PySem L2
theorem eqvAll_map {α : Type} [DecidableEq α] {f : α → PyData} (hf : ∀ a b, PyData.eqv (f a) (f b) = decide (a = b)) : ∀ xs ys : List α, PyData.eqvAll (xs.map f) (ys.map f) = decide (xs = ys)
  | [], [] => by simp [PyData.eqvAll]
  | [], _ :: _ => by simp [PyData.eqvAll]
  | _ :: _, [] => by simp [PyData.eqvAll]
  | x :: xs, y :: ys => by
    rw [List.map_cons, List.map_cons, PyData.eqvAll, hf, eqvAll_map hf xs ys]
    by_cases h : x = y <;> by_cases h2 : xs = ys <;> simp [h, h2]
theorem eqv_str (a b : Str) : PyData.eqv (.str a) (.str b) = decide (a = b) := by rw [PyData.eqv]; by_cases h : a = b <;> simp [h]
theorem eqv_int (a b : Int) : PyData.eqv (.int a) (.int b) = decide (a = b) := by rw [PyData.eqv]; by_cases h : a = b <;> simp [h]
theorem eqv_bool (a b : Bool) : PyData.eqv (.bool a) (.bool b) = decide (a = b) := by rw [PyData.eqv]; cases a <;> cases b <;> rfl
theorem eqv_strs (xs ys : List Str) : PyData.eqv (.list (xs.map PyData.str)) (.list (ys.map PyData.str)) = decide (xs = ys) := by rw [PyData.eqv]; exact eqvAll_map eqv_str xs ys
theorem eqv_strT (xs ys : List Str) : PyData.eqv (.tuple (xs.map PyData.str)) (.tuple (ys.map PyData.str)) = decide (xs = ys) := by rw [PyData.eqv]; exact eqvAll_map eqv_str xs ys
theorem eqv_ints (xs ys : List Int) : PyData.eqv (.list (xs.map PyData.int)) (.list (ys.map PyData.int)) = decide (xs = ys) := by rw [PyData.eqv]; exact eqvAll_map eqv_int xs ys
theorem eqv_bools (xs ys : List Bool) : PyData.eqv (.list (xs.map PyData.bool)) (.list (ys.map PyData.bool)) = decide (xs = ys) := by rw [PyData.eqv]; exact eqvAll_map eqv_bool xs ys
theorem lay_map {α : Type} {f : α → PyData} : ∀ (xs : List α), (∀ x ∈ xs, (f x).canLay0 = true) → PyData.canLayAll0 (xs.map f) = true
  | [], _ => rfl
  | x :: xs, h => by
    rw [List.map_cons, PyData.canLayAll0, h x List.mem_cons_self, lay_map xs fun y hy => h y (List.mem_cons_of_mem _ hy)]; rfl
theorem dep_map {α : Type} {f : α → PyData} {n : Nat} : ∀ (xs : List α), (∀ x ∈ xs, (f x).depth ≤ n) → PyData.depthAll (xs.map f) ≤ n
  | [], _ => Nat.zero_le _
  | x :: xs, h => by
    rw [List.map_cons, PyData.depthAll]
    exact Nat.max_le.mpr ⟨h x List.mem_cons_self, dep_map xs fun y hy => h y (List.mem_cons_of_mem _ hy)⟩
theorem shaped_l {α : Type} {f : α → PyData} (xs : List α) (h1 : ∀ x ∈ xs, (f x).canLay0 = true) (h2 : ∀ x ∈ xs, (f x).depth ≤ 8) : SeqAt.shaped (.list (xs.map f)) = true ∧ SeqAt.shaped (.tuple (xs.map f)) = true := by
  have a := lay_map xs h1
  have b := dep_map xs h2
  constructor
  · unfold SeqAt.shaped; rw [PyData.canLay0, PyData.depth, a]; exact decide_eq_true (by omega)
  · unfold SeqAt.shaped; rw [PyData.canLay0, PyData.depth, a]; exact decide_eq_true (by omega)
theorem Nm.len {s : Str} (h : Nm s) : s.length ≤ 8 ∧ 1 ≤ s.length := by
  obtain ⟨c, r, e, _, _, l⟩ := h
  rw [len_ch, e, List.length_cons]
  omega
theorem al_small {c : Nat} (h : isAl c = true) : c < 128 := by
  unfold isAl isLet at h
  simp only [Bool.or_eq_true, Bool.and_eq_true, decide_eq_true_eq] at h
  omega
theorem Nm.ok {s : Str} (h : Nm s) : (PyData.str s).canLay0 = true := by
  rw [PyData.canLay0]
  obtain ⟨c, r, e, h1, h2, _⟩ := h
  have q : ∀ x ∈ s.cps.toList, x < 128 := fun x hx => by
    have hx : x ∈ ch s := hx
    rw [e] at hx
    rcases List.mem_cons.mp hx with z | z
    · rw [z]; exact al_small (al_of_let h1)
    · exact al_small (h2 x z)
  show s.cps.all (· < 0x110000) = true
  rw [← Array.all_toList, List.all_eq_true]
  intro x hx
  have := q x hx
  exact decide_eq_true (by omega)
theorem shaped_strs {ss : List Str} (h : ∀ s ∈ ss, Nm s) : SeqAt.shaped (.list (ss.map PyData.str)) = true := (shaped_l ss (fun x hx => (h x hx).ok) fun x _ => by rw [PyData.depth]; exact Nat.zero_le _).1
theorem shaped_strT {ss : List Str} (h : ∀ s ∈ ss, Nm s) : SeqAt.shaped (.tuple (ss.map PyData.str)) = true := (shaped_l ss (fun x hx => (h x hx).ok) fun x _ => by rw [PyData.depth]; exact Nat.zero_le _).2
theorem shaped_ints (ns : List Int) : SeqAt.shaped (.list (ns.map PyData.int)) = true := (shaped_l ns (fun x hx => rfl) fun x _ => by rw [PyData.depth]; exact Nat.zero_le _).1
theorem shaped_bools (ns : List Bool) : SeqAt.shaped (.list (ns.map PyData.bool)) = true := (shaped_l ns (fun x hx => rfl) fun x _ => by rw [PyData.depth]; exact Nat.zero_le _).1
theorem dp_int {K : PySem.W.Frag} {H : Hp} : ∀ ns : List Int, DpAll K H (ns.map V.int) (ns.map PyData.int)
  | [] => .nil
  | x :: r => .cons (.int x) (dp_int r)
theorem dp_bool {K : PySem.W.Frag} {H : Hp} : ∀ ns : List Bool, DpAll K H (ns.map V.bl) (ns.map PyData.bool)
  | [] => .nil
  | x :: r => .cons (.bl x) (dp_bool r)
theorem dp_ints {K : PySem.W.Frag} {H : Hp} {a : Addr} {ns : List Int} (h : H a = some (.lst (ns.map V.int))) : Dp K H (.ref a) (.list (ns.map PyData.int)) := .lst (SqL.of h) (dp_int ns)
theorem dp_bools {K : PySem.W.Frag} {H : Hp} {a : Addr} {ns : List Bool} (h : H a = some (.lst (ns.map V.bl))) : Dp K H (.ref a) (.list (ns.map PyData.bool)) := .lst (SqL.of h) (dp_bool ns)
end Lk
namespace Lk
open PySem L2
theorem three {x : Int} {i : Nat} (h : ([1, 1, 0, 2, 1, 3] : List Int)[i]? = some x) : 0 ≤ x ∧ x ≤ 3 := by
  have q : ∀ y ∈ ([1, 1, 0, 2, 1, 3] : List Int), 0 ≤ y ∧ y ≤ 3 := by decide
  exact q x (List.mem_of_getElem? h)
theorem shift9 {x : Int} {i : Nat} (h : ([0, 0, 1, 0, 2, 1, 3, 0, 1] : List Int)[i]? = some x) : 0 ≤ x ∧ x ≤ 99 := by
  have q : ∀ y ∈ ([0, 0, 1, 0, 2, 1, 3, 0, 1] : List Int), 0 ≤ y ∧ y ≤ 99 := by decide
  exact q x (List.mem_of_getElem? h)
end Lk
namespace Lk
open PySem L2
theorem allNm2 {a b : Str} (h1 : Nm a) (h2 : Nm b) : ∀ s ∈ [a, b], Nm s := fun s h => by
  rcases List.mem_cons.mp h with z | z
  · rw [z]; exact h1
  · rw [List.mem_singleton.mp z]; exact h2
theorem allNm1 {a : Str} (h1 : Nm a) : ∀ s ∈ [a], Nm s := fun s h => by rw [List.mem_singleton.mp h]; exact h1
theorem RulesOk.nm {ss : List Str} {ws : List Int} {rs : List (Str × Str × Int)} (R : RulesOk ss ws rs) (h : Nms ss) {r : Str × Str × Int} (hr : r ∈ rs) : Nm r.1 ∧ Nm r.2.1 := by
  obtain ⟨i, j, h1, h2, _⟩ := R.each r hr
  exact ⟨h.2 _ (List.mem_of_getElem? h1), h.2 _ (List.mem_of_getElem? h2)⟩
theorem get_eq {α : Type} {xs : List α} {i : Nat} {x y : α} (h : xs[i]? = some x) (h2 : xs[i]? = some y) : x = y := Option.some.inj (h.symm.trans h2)
theorem other_true {a b x y : Str} {r : Str × Str × Int} (h : ¬ ([r.1, r.2.1] = [x, y])) (ex : x = a) (ey : y = b) : other a b r = true := by
  subst ex; subst ey
  unfold other
  rw [decide_eq_false (fun z => h (by injection z with z1 z2; rw [z1, z2]))]; rfl
theorem other_false {a b x y : Str} {r : Str × Str × Int} (h : [r.1, r.2.1] = [x, y]) (ex : x = a) (ey : y = b) : ¬ other a b r = true := by
  subst ex; subst ey
  unfold other
  injection h with h1 h2
  injection h2 with h2 _
  rw [decide_eq_true (by rw [h1, h2])]; decide
theorem sw1 {ns : List Int} {f g x y : Int} (h : ¬ pairGt x f y g = true) (hx : ns[f.toNat]? = some x) (hy : ns[g.toNat]? = some y) : pairGt (ns.getD f.toNat 0) f (ns.getD g.toNat 0) g = false := by
  rw [getD_of hx, getD_of hy]; exact Bool.eq_false_iff.mpr h
theorem sw2 {ns : List Int} {f g x y a b : Int} (h : pairGt x f y g = true) (hx : ns[f.toNat]? = some x) (hy : ns[g.toNat]? = some y) (ea : a = g) (eb : b = f) : pairGt (ns.getD a.toNat 0) a (ns.getD b.toNat 0) b = false := by
  subst ea; subst eb
  rw [getD_of hx, getD_of hy]; exact pairGt_swap h
end Lk
namespace Lk
open PySem L2
theorem Kp.more {ms : List Addr} {H H' : Hp} (ns : List Addr) (k : Kp ms H H') : Kp (ms ++ ns) H H' := k.mono fun b hb => List.mem_append_left ns hb
theorem forall_mem2 {P : Addr → Prop} {a b : Addr} (h1 : P a) (h2 : P b) : ∀ x ∈ [a, b], P x := fun x h => by
  rcases List.mem_cons.mp h with z | z
  · rw [z]; exact h1
  · rw [List.mem_singleton.mp z]; exact h2
theorem forall_mem1 {P : Addr → Prop} {a : Addr} (h1 : P a) : ∀ x ∈ [a], P x := fun x h => by rw [List.mem_singleton.mp h]; exact h1
theorem forall_cons {P : Addr → Prop} {a : Addr} {l : List Addr} (h1 : P a) (h2 : ∀ x ∈ l, P x) : ∀ x ∈ a :: l, P x := fun x h => by
  rcases List.mem_cons.mp h with z | z
  · rw [z]; exact h1
  · exact h2 x z
theorem forall_mem3 {P : Addr → Prop} {a b c : Addr} (h1 : P a) (h2 : P b) (h3 : P c) : ∀ x ∈ [a, b, c], P x := forall_cons h1 (forall_mem2 h2 h3)
theorem forall_mem4 {P : Addr → Prop} {a b c d : Addr} (h1 : P a) (h2 : P b) (h3 : P c) (h4 : P d) : ∀ x ∈ [a, b, c, d], P x := forall_cons h1 (forall_mem3 h2 h3 h4)
theorem forall_mem5 {P : Addr → Prop} {a b c d e : Addr} (h1 : P a) (h2 : P b) (h3 : P c) (h4 : P d) (h5 : P e) : ∀ x ∈ [a, b, c, d, e], P x := forall_cons h1 (forall_mem4 h2 h3 h4 h5)
theorem ndec {P : Prop} [Decidable P] (h : (!decide P) = true) : ¬ P := fun z => by rw [decide_eq_true z] at h; exact Bool.noConfusion h
theorem nndec {P : Prop} [Decidable P] (h : ¬ (!decide P) = true) : P := Decidable.byContradiction fun z => h (by rw [decide_eq_false z]; rfl)
end Lk
namespace Lk
theorem put_len {α : Type} {rs : List α} {f : α → Bool} {n k : Nat} {x : α} (h : rs.length ≤ k) : ((rs.take n).filter f ++ [x]).length ≤ k + 1 := by
  rw [List.length_append, List.length_singleton]
  have a := List.length_filter_le f (rs.take n)
  rw [List.length_take] at a
  omega
end Lk
set_option Elab.async false
set_option linter.all false
set_option maxRecDepth 100000
set_option maxHeartbeats 2000000
namespace Lk
open PySem L2
/-! ### exceptions as values -/
/-- C(e, ..) as a value; the class's own __init__ keeps sp -/
def tMkE (C : Addr) (sp : Sp) (ta : TA) : TE := fun σ H Q => ta σ H fun vs H1 => vs.length ≤ 1000 ∧ ∀ a, H1 a = none → sp (.ref a :: vs) (upd H1 a (exo a C none)) (fun v H2 => v = .non ∧ Q (.ref a) H2) (fun _ _ _ => False)
section
variable {X : Cx}
theorem pe_mkE {CX : CXT} {x : Str} {C fI : Addr} {k : Nat} {fd : FuncData} {ps : List Str} {sp : Sp} {e : Expr} {es : List Expr} {ta : TA} {p pos : Pos} (T : OexC X.K C) (iC : PySem.W.findIn X.K (.ref C) "__init__" = some (some (.ref fI))) (tI : PySem.W.typeIn X.K (.ref fI) = some (.type "function"))
    (F1 : FnOk X.prog X.w X.K X.mg X.base CX k fI fd ps sp) (hr : Room (k + 1) X.A) (hb : Binds X.K fd ps []) (hx : Passes CX X (fun _ _ _ => False)) (hg : Gl X x) (hm : X.mg x = some (.ref C)) (ha : PA X (e :: es) ta)
    (hdb : (x == ("__debug__" : Str)) = false := by decide) (he : starEach (e :: es) X.env = (false, eval e X.env) :: starEach es X.env := by rfl) (hpl : (backTo pos (starEach es X.env)).any (·.1) = false := by rfl) :
    PE X (.Call (.Name x p) (e :: es) [] pos) (tMkE C sp ta) := by
  constructor
  rintro pins s0 σ G0 Q I0 hw
  obtain ⟨nm, q, N, bs, bm, sn, sub, ab, col, dd, k0, k1, k2, k3, k5, hC, hbm⟩ := T.cls
  apply wpAny_Call_Name_kw (ld_glob I0 hg hm _ hdb)
  apply PySem.W.callWith_K (h₀ := X.base) I0.ok.mod.kin T.kC _ he hpl
  refine thn (ha.run pos pins s0 σ G0 _ I0 hw) fun us s1 ⟨vs, G1, J1, rv, hz, hq⟩ => ⟨J1.kIn, ?_⟩
  obtain ⟨hp, gn, dr, tk, os⟩ := s1
  have big : hp.objs.size ≤ hp.objs.size + 1 := Nat.le_succ _
  have fr : G1 (hp.objs.size + 1) = none := J1.hok.fresh big
  have hs := hq _ fr
  generalize hh2 : (hp.push (PySem.W.kdv_tup us)).push (PySem.HandSPX.excO C hp.objs.size) = hp2
  have keep : ∀ b o, hp.get? b = some o → hp2.get? b = some o := by
    rw [← hh2]; exact fun b o e => Heap.get?_push_of_some _ (Heap.get?_push_of_some _ e)
  have there : hp2.get? (hp.objs.size + 1) = some (PySem.HandSPX.excO C hp.objs.size) := by rw [← hh2]; heap_get
  have J2 : Inv X pins σ (upd G1 (hp.objs.size + 1) (exo (hp.objs.size + 1) C none)) ⟨hp2, gn, dr, tk, os⟩ := J1.laid (t' := tk) (a := hp.objs.size + 1) keep big (exo_ok there)
  have r2 : Vals (V.ref (hp.objs.size + 1) :: vs) (Value.ref (hp.objs.size + 1) :: us) := .cons rfl rv
  have hl : (Value.ref (hp.objs.size + 1) :: us).length = ps.length := by rw [← r2.length]; exact F1.len _ _ _ _ hs
  have hus : us.length ≤ sizeLine := by rw [← Paired.length rv, sizeLine_eq]; omega
  have call := F1.run _ X.stack _ _ ⟨Value.ref (hp.objs.size + 1) :: us, []⟩ (Value.ref (hp.objs.size + 1) :: us) _ _ (fun _ _ _ => False) (hr.make C us []) (J2.env0.make C us []) (by
    have := hb _ (Value.ref (hp.objs.size + 1) :: us) J2.kIn (by simpa using hl)
    simpa using this) r2 hs
  show wpAny _ _ (PySem.call (.ref C) us) _ _ _
  refine wpAny_call (PySem.HandSPX.call_own PySem.F.excBase_ValueError (fun Y => PySem.HandSPX.refsVE_contains Y bm hbm) (J1.kIn _ _ hC) (PySem.W.looks_findIn J1.kIn iC) (fun self => PySem.W.bind_fn J1.kIn self tI) hus (by
    rw [hh2]
    refine codeAny_mono call fun r s' hr' => ?_
    cases r with
    | error er => exact hx pins σ _ _ er s' J2 hr'
    | ok fl =>
      cases fl <;> first | exact False.elim hr' | skip
      obtain ⟨v, G2, J3, rv3, ev, q2⟩ := J2.after hr'
      subst ev
      exact ⟨rv3, .ref (hp.objs.size + 1), G2, J3, rfl, q2⟩))
/-- C(), C without an __init__ of its own -/
def tMkE0 (C : Addr) : TE := fun _ H Q => ∀ a H2, H a = none → H2 a = some (ExO (.ref C) a) → Kp [] H H2 → Q (.ref a) H2
theorem pe_mkE0 {C : Addr} {bmB : List Value} {Bn newId initId : String} {x : Str} {p pos : Pos} (F : ExcBaseFacts Bn newId initId bmB) (ex : PySem.W.excIn X.K C bmB newId = true) (gC : X.mg x = some (.ref C)) (kC : PySem.W.keepIn X.K (.ref C) = true) (hg : Gl X x)
    (hdb : (x == ("__debug__" : Str)) = false := by decide) : PE X (.Call (.Name x p) [] [] pos) (tMkE0 C) := by
  constructor
  rintro pins s0 σ G0 Q I0 hw
  apply wpAny_Call_Name_kw (ld_glob I0 hg gC _ hdb)
  refine PySem.W.callWith_K0 I0.kIn kC ?_
  obtain ⟨bm, N, nm, qn, bs, hdct, sn, sub, ab, col, dd, k0, k1, k2, k3, k5, mN, hC, hN, hni, T⟩ := exc_obj I0.kIn ex
  refine wpAny_call_exc_subT F T hC hN hni (fun h' a hm => ?_) (Nat.zero_le _)
  have hn : G0 a = none := I0.hok.gone hm.new
  obtain ⟨t, ht, _, _⟩ := hm.there
  exact ⟨.ref a, upd G0 a (ExO (.ref C) a), I0.laidN hm.keeps hm.new hn (exO_ok ht ⟨rfl, rfl⟩ rfl rfl rfl (show 4 < 6 by decide)), rfl, hw a _ hn upd_same ((Kp.refl [] G0).new hn)⟩
/-- an exception of the class at C -/
def Exc (H : Hp) (a C : Addr) : Prop := (∃ d fs, H a = some (exo a C (some d)) ∧ H d = some (exd d fs)) ∨ H a = some (ExO (.ref C) a)
theorem Exc.inst {pins : List (Addr × Obj)} {σ : L2.St} {H : Hp} {s : Shared} {a C : Addr} (I : Inv X pins σ H s) (h : Exc H a C) : ∃ ox od, PySem.W.InstAt s.heap a ox C od := by
  rcases h with ⟨d, fs, h1, h2⟩ | h
  · obtain ⟨t1, e⟩ := exo_at I.hok h1
    obtain ⟨mA, hn, _⟩ := exd_at I.hok h2
    obtain ⟨od, ho, _⟩ := lookIn_ns hn
    exact ⟨_, some od, e, rfl, rfl, ho⟩
  · obtain ⟨⟨oe, vs, e, ⟨z1, z2⟩, dt, _⟩, _⟩ := I.hok a _ h
    refine ⟨oe, none, e, z1, ?_, ?_⟩
    · unfold PySem.W.notCls; rw [dt] <;> rfl
    · rw [z2]; trivial
/-- isinstance(e, c) -/
def rIsX (K : PySem.W.Frag) : List V → Hp → VK → Prop := fun xs H Q => ∃ (a D : Addr) (c : V) (cv : Value) (b : Bool), xs = [.ref a, c] ∧ Exc H a D ∧ L2.ExcC K D ∧ ClsV c cv ∧ PySem.W.kitOne K (.ref D) cv = some b ∧ Q (.bl b) H
theorem call_isX : CallR X (.builtin "isinstance") (rIsX X.K) := by
  rintro pins s σ H xs us Q I r ⟨a, D, c, cv, b, rfl, hE, hC, hc, hk, q⟩
  obtain ⟨u1, u2, rfl, r1, r2⟩ := vals2 r
  cases r1
  have e2 := hc.eq r2
  subst e2
  obtain ⟨ox, od, J⟩ := hE.inst I
  have hcl : (PySem.W.clsIn X.K D).isSome = true := by
    have := hC.hd
    unfold PySem.W.hasDictIn at this
    cases e : PySem.W.clsIn X.K D with
    | none => rw [e] at this; simp at this
    | some _ => rfl
  exact PySem.W.kia_one (PySem.W.kitx_exc hcl hC.hg hC.hk hC.hs hC.ha hC.hn hC.ht hC.hm) I.kIn J hk (fun z => nomatch z) fun tk => ⟨.bl b, H, I.tok tk, rfl, q⟩
/-- e.f -/
def tFldE (K : PySem.W.Frag) (f : Str) (te : TE) : TE := fun σ H Q => te σ H fun x H1 => ∃ (a C d : Addr) (fs : List (Str × V)) (v : V), x = .ref a ∧ H1 a = some (exo a C (some d)) ∧ H1 d = some (exd d fs) ∧ XfC K C ∧ PySem.W.findIn K (.ref C) f = some none ∧ fs.lookup f = some v ∧ Q v H1
theorem pe_fldE {e : Expr} {te : TE} {f : Str} {pos : Pos} (he : PE X e te) (hb : attributeBase e f X.env (eval e X.env) = eval e X.env := by rfl) : PE X (.Attribute e f pos) (tFldE X.K f te) := by
  constructor
  rintro pins s0 σ G0 Q I0 hw
  refine attr_of hb (thn (he.run pins s0 σ G0 _ I0 hw) ?_)
  rintro u s1 ⟨x, G1, J1, rx, a, C, d, fs, v, rfl, ha, hd, T, hno, hl, q⟩
  cases rx
  obtain ⟨t1, e1⟩ := exo_at J1.hok ha
  obtain ⟨mA, hn, hr⟩ := exd_at J1.hok hd
  obtain ⟨od, ho, hlk⟩ := lookIn_ns hn
  obtain ⟨u, hu, ru⟩ := RelO.some_of (v := v) (o := mA f) (by rw [← hl]; exact hr f)
  exact PySem.HandSPX.exc_get J1.kIn (od := some od) ⟨e1, rfl, rfl, ho⟩ T.ga T.gg T.exC (PySem.W.findObj_own T.hdC hno rfl (by rw [hlk, hu])) (handed_of ru) ⟨v, G1, J1.tok _, ru, q⟩
end
end Lk
namespace Lk
open PySem L2
theorem pe_fldEK {X : Cx} {K : PySem.W.Frag} (hK : X.K = K) {e : Expr} {te : TE} {f : Str} {pos : Pos} (he : PE X e te) (hb : attributeBase e f X.env (eval e X.env) = eval e X.env := by rfl) : PE X (.Attribute e f pos) (tFldE K f te) := by
  subst hK
  exact pe_fldE he hb
end Lk
set_option Elab.async false
set_option linter.all false
set_option maxRecDepth 100000
set_option maxHeartbeats 2000000
namespace Lk
open PySem L2
/-! ### data that only stands -/
theorem SqL.kp0 {K : PySem.W.Frag} {H H' : Hp} {a : Addr} {xs : List V} (h : SqL K H a xs) (k : Kp [] H H') : SqL K H' a xs := by
  rcases h with (h | ⟨o, h⟩) | h
  · exact .inl (.inl (k.at0 h))
  · exact .inl (.inr ⟨o, k.at0 h⟩)
  · exact .inr h
theorem SqT.kp0 {K : PySem.W.Frag} {H H' : Hp} {a : Addr} {xs : List V} (h : SqT K H a xs) (k : Kp [] H H') : SqT K H' a xs := by
  rcases h with (h | ⟨o, h⟩) | h
  · exact .inl (.inl (k.at0 h))
  · exact .inl (.inr ⟨o, k.at0 h⟩)
  · exact .inr h
mutual
theorem Dp.kp0 {K : PySem.W.Frag} {H H' : Hp} (k : Kp [] H H') : ∀ (d : PyData) (v : V), Dp K H v d → Dp K H' v d
  | .none, _, h => by cases h; exact .non
  | .bool b, _, h => by cases h; exact .bl b
  | .int i, _, h => by cases h; exact .int i
  | .str x, _, h => by cases h; exact .str x
  | .list ds, _, h => by
    cases h with
    | lst s r => exact .lst (SqL.kp0 s k) (DpAll.kp0 k ds _ r)
  | .tuple ds, _, h => by
    cases h with
    | tup s r => exact .tup (SqT.kp0 s k) (DpAll.kp0 k ds _ r)
  | .dict _, _, h => by cases h
theorem DpAll.kp0 {K : PySem.W.Frag} {H H' : Hp} (k : Kp [] H H') : ∀ (ds : List PyData) (vs : List V), DpAll K H vs ds → DpAll K H' vs ds
  | [], _, h => by cases h; exact .nil
  | d :: ds, _, h => by
    cases h with
    | cons a b => exact .cons (Dp.kp0 k d _ a) (DpAll.kp0 k ds _ b)
end
/-- v is data -/
def DatN (n : Nat) (K : PySem.W.Frag) (H : Hp) (v : V) (d : PyData) : Prop := Dp K H v d ∧ d.canLay0 = true ∧ d.depth ≤ n
abbrev Dat (K : PySem.W.Frag) (H : Hp) (v : V) (d : PyData) : Prop := DatN 4 K H v d
theorem Dat.kp0 {K : PySem.W.Frag} {H H' : Hp} {v : V} {d : PyData} (h : Dat K H v d) (k : Kp [] H H') : Dat K H' v d := ⟨Dp.kp0 k d v h.1, h.2⟩
theorem dat_int {K : PySem.W.Frag} {H : Hp} (i : Int) : Dat K H (.int i) (.int i) := ⟨.int i, rfl, by rw [PyData.depth]; omega⟩
theorem dat_non {K : PySem.W.Frag} {H : Hp} : Dat K H .non .none := ⟨.non, rfl, by rw [PyData.depth]; omega⟩
theorem dat_str {K : PySem.W.Frag} {H : Hp} {s : Str} (h : PyData.strOk s = true) : Dat K H (.str s) (.str s) := ⟨.str s, by rw [PyData.canLay0]; exact h, by rw [PyData.depth]; omega⟩
theorem ok_text (s : String) : PyData.strOk (Str.ofString s) = true := by
  rw [Str.ofString_eq_toList]
  unfold PyData.strOk
  rw [← Array.all_toList, List.all_eq_true]
  intro c hc
  have hc : c ∈ s.toList.map Char.toNat := by simpa using hc
  obtain ⟨x, _, rfl⟩ := List.mem_map.mp hc
  have := x.valid
  have h2 : x.toNat < 1114112 := by
    have h3 : UInt32.toNat x.val < 1114112 := by
      rcases this with h | h
      · exact Nat.lt_trans h (by decide)
      · exact h.2
    exact h3
  exact decide_eq_true h2
theorem ok_app {a b : Str} (ha : PyData.strOk a = true) (hb : PyData.strOk b = true) : PyData.strOk (a ++ b) = true := by
  unfold PyData.strOk at *
  rw [← Array.all_toList, List.all_eq_true] at *
  intro c hc
  have hc : c ∈ ch (a ++ b) := hc
  rw [ch_append] at hc
  rcases List.mem_append.mp hc with h | h
  · exact ha c h
  · exact hb c h
def dOf (d : PyData) : List PyData → PyData := fun l => .list (d :: l)
theorem dat_l1 {K : PySem.W.Frag} {H : Hp} {a : Addr} {i : Int} (h : H a = some (.lst [.int i])) : Dat K H (.ref a) (.list [.int i]) := ⟨.lst (SqL.of h) (.cons (.int i) .nil), rfl, by simp [PyData.depth, PyData.depthAll]⟩
theorem dat_t2 {K : PySem.W.Frag} {H : Hp} {a : Addr} {i : Int} {s : Str} (ok : PyData.strOk s = true) (h : H a = some (.tup [.int i, .str s])) : Dat K H (.ref a) (.tuple [.int i, .str s]) :=
  ⟨.tup (SqT.of h) (.cons (.int i) (.cons (.str s) .nil)), by simp [PyData.canLay0, PyData.canLayAll0, ok], by simp [PyData.depth, PyData.depthAll]⟩
theorem dat_mem {K : PySem.W.Frag} {H : Hp} {xs : List V} {i : Nat} {x : V} (h : ∀ y ∈ xs, ∃ d, Dat K H y d) (e : xs[i]? = some x) : ∃ d, Dat K H x d := h x (List.mem_of_getElem? e)
theorem forall_nil {α : Type} {P : α → Prop} : ∀ y ∈ ([] : List α), P y := fun y h => absurd h List.not_mem_nil
theorem forall_cons' {α : Type} {P : α → Prop} {x : α} {l : List α} (h : P x) (r : ∀ y ∈ l, P y) : ∀ y ∈ x :: l, P y := fun y m => by
  rcases List.mem_cons.mp m with z | z
  · rw [z]; exact h
  · exact r y z
/-- lists and tuples of data -/
def DatL (n : Nat) (K : PySem.W.Frag) (H : Hp) : List V → List PyData → Prop
  | [], [] => True
  | v :: vs, d :: ds => DatN n K H v d ∧ DatL n K H vs ds
  | _, _ => False
theorem DatL.all {n : Nat} {K : PySem.W.Frag} {H : Hp} : ∀ {vs : List V} {ds : List PyData}, DatL n K H vs ds → DpAll K H vs ds ∧ PyData.canLayAll0 ds = true ∧ PyData.depthAll ds ≤ n
  | [], [], _ => ⟨.nil, rfl, Nat.zero_le _⟩
  | [], _ :: _, h => h.elim
  | _ :: _, [], h => h.elim
  | v :: vs, d :: ds, h => by
    obtain ⟨⟨a, b, c⟩, r⟩ := h
    obtain ⟨x, y, z⟩ := DatL.all r
    exact ⟨.cons a x, by rw [PyData.canLayAll0, b, y]; rfl, by rw [PyData.depthAll]; exact Nat.max_le.mpr ⟨c, z⟩⟩
theorem shape_l {n : Nat} {K : PySem.W.Frag} {H : Hp} {vs : List V} {ds : List PyData} (h : DatL n K H vs ds) (hn : n ≤ 60 := by decide) : SeqAt.shaped (.list ds) = true := by
  obtain ⟨_, b, c⟩ := h.all
  unfold SeqAt.shaped
  rw [PyData.canLay0, PyData.depth, b]
  exact decide_eq_true (by omega)
theorem dat_tup {n : Nat} {K : PySem.W.Frag} {H : Hp} {a : Addr} {vs : List V} {ds : List PyData} (e : H a = some (.tup vs)) (h : DatL n K H vs ds) : DatN (n + 1) K H (.ref a) (.tuple ds) := by
  obtain ⟨x, b, c⟩ := h.all
  exact ⟨.tup (SqT.of e) x, by rw [PyData.canLay0]; exact b, by rw [PyData.depth]; omega⟩
theorem eqv_same {n : Nat} {K : PySem.W.Frag} {H : Hp} {vs : List V} {ds : List PyData} (h : DatL n K H vs ds) : PyData.eqv (.list ds) (.list ds) = true := SeqAt.eqv_refl _ (by rw [PyData.canLay0]; exact h.all.2.1)
theorem lg_ok {i : Int} (h0 : 0 ≤ i) (h : i < 1000000000) : i.natAbs.log2 < 1920 := Nat.lt_of_lt_of_le (PySem.Flt.log2_lt_of (n := i.natAbs) (k := 30) (by decide) (by omega)) (by decide)
theorem text_len {i : Int} (h0 : 0 ≤ i) (h : i < 1000000000) : (Str.ofString (toString i)).length ≤ 100 := by
  have q := int_text_length_le10 (a := i) (k := 9) (by decide) (by omega)
  rw [len_ch]
  unfold ch
  rw [Str.ofString_eq_toList, List.toList_toArray, List.length_map]
  have : (toString i).toList.length = (toString i).length := String.length_toList
  omega
end Lk
namespace Lk
open PySem L2
/-! ### what the inits keep -/
def spI1 (C : Addr) (f : Str) : Sp := fun vs H Q _ => ∃ (a : Addr) (v : V), vs = [.ref a, v] ∧ H a = some (exo a C none) ∧ ∀ d H', H' a = some (exo a C (some d)) → H' d = some (exd d [(f, v)]) → Kp [a] H H' → H d = none → Q .non H'
def spI2 (C : Addr) (f g : Str) : Sp := fun vs H Q _ => ∃ (a : Addr) (v u : V), vs = [.ref a, v, u] ∧ H a = some (exo a C none) ∧ ∀ d H', H' a = some (exo a C (some d)) → H' d = some (exd d [(g, u), (f, v)]) → Kp [a] H H' → H d = none → Q .non H'
theorem read1 {C a : Addr} {f : Str} {v : V} {H : Hp} {Q : VK} {K : PySem.W.Frag} (T : OexC K C) (nf : PySem.W.findIn K (.ref C) f = some none) (hA : H a = some (exo a C none))
    (q : ∀ d H', H' a = some (exo a C (some d)) → H' d = some (exd d [(f, v)]) → Kp [a] H H' → H d = none → Q .non H') (σ : L2.St) : ∃ b D : Addr, V.ref a = .ref b ∧ OexC K D ∧ PySem.W.findIn K (.ref D) f = some none ∧
      ((H b = some (exo b D none) ∧ ∀ dx, H dx = none → dx ≠ b → Q .non (upd (upd H dx (exd dx [(f, v)])) b (exo b D (some dx)))) ∨
        ∃ (dx : Addr) (fs : List (Str × V)), H b = some (exo b D (some dx)) ∧ H dx = some (exd dx fs) ∧ fs.length ≤ 900 ∧ Q .non (upd H dx (exd dx ((f, v) :: fs)))) := by
  refine ⟨a, C, rfl, T, nf, .inl ⟨hA, fun dx hn ne => ?_⟩⟩
  exact q dx _ upd_same (by rw [upd_ne ne]; exact upd_same) (((Kp.refl [a] H).new hn).put (.inl (List.mem_singleton.mpr rfl))) hn
theorem newE {H1 H2 : Hp} {a : Addr} {o : HO} (hn : H1 a = none) (k : Kp [a] (upd H1 a o) H2) : Kp [] H1 H2 := ((Kp.refl [] H1).new hn).step k fun b hb => .inr (by rw [List.mem_singleton.mp hb]; exact hn)
theorem newE_d {H1 : Hp} {a d : Addr} {o : HO} (hn : H1 a = none) (h : upd H1 a o d = none) : H1 d = none := by
  by_cases e : d = a
  · rw [e]; exact hn
  · rw [upd_ne e] at h; exact h
/-! ### rows of exceptions -/
inductive ExIn (e : Nat → Addr) (H : Hp) : List Addr → List Nat → Prop
  | nil : ExIn e H [] []
  | cons {p : Addr} {c : Nat} {ps : List Addr} {cs : List Nat} : Exc H p (e c) → ExIn e H ps cs → ExIn e H (p :: ps) (c :: cs)
theorem ExIn.at {e : Nat → Addr} {H : Hp} : ∀ {ps : List Addr} {cs : List Nat}, ExIn e H ps cs → ∀ {i : Nat} {p : Addr}, ps[i]? = some p → ∃ c, cs[i]? = some c ∧ Exc H p (e c)
  | _, _, .nil, i, p, h => by simp at h
  | _, _, .cons x r, 0, p, h => by
    have z := Option.some.inj h
    subst z
    exact ⟨_, rfl, x⟩
  | _, _, .cons x r, i + 1, p, h => r.at (i := i) (by simpa using h)
theorem Exc.kp0 {H H' : Hp} {a C : Addr} (h : Exc H a C) (k : Kp [] H H') : Exc H' a C := by
  rcases h with ⟨d, fs, h1, h2⟩ | h
  · exact .inl ⟨d, fs, k.at0 h1, k.at0 h2⟩
  · exact .inr (k.at0 h)
theorem ExIn.kp0 {e : Nat → Addr} {H H' : Hp} {ps : List Addr} {cs : List Nat} (h : ExIn e H ps cs) (k : Kp [] H H') : ExIn e H' ps cs := by
  induction h with
  | nil => exact .nil
  | cons x _ ih => exact .cons (x.kp0 k) ih
theorem ExIn.len {e : Nat → Addr} {H : Hp} {ps : List Addr} {cs : List Nat} (h : ExIn e H ps cs) : ps.length = cs.length := by
  induction h with
  | nil => rfl
  | cons _ _ ih => simp [ih]
def Exs (H : Hp) (l : Addr) (cs : List Nat) (e : Nat → Addr) : Prop := ∃ ps : List Addr, H l = some (.lst (ps.map V.ref)) ∧ ExIn e H ps cs
theorem Exs.kp0 {e : Nat → Addr} {H H' : Hp} {l : Addr} {cs : List Nat} (h : Exs H l cs e) (k : Kp [] H H') : Exs H' l cs e := by
  obtain ⟨ps, a, b⟩ := h
  exact ⟨ps, k.at0 a, b.kp0 k⟩
theorem range_at {s n i c : Nat} (h : (List.range' s n)[i]? = some c) : c = s + i ∧ i < n := by
  have l := lt_of_get h
  rw [List.length_range'] at l
  rw [List.getElem?_range' l] at h
  have := Option.some.inj h
  omega
end Lk
namespace Lk
open PySem L2
inductive NmIn (K : PySem.W.Frag) (H : Hp) : List Addr → List V → Prop
  | nil : NmIn K H [] []
  | cons {p : Addr} {v : V} {ps : List Addr} {vs : List V} : (∃ C d : Addr, H p = some (exo p C (some d)) ∧ H d = some (exd d [("name", v)]) ∧ XfC K C ∧ PySem.W.findIn K (.ref C) "name" = some none) → NmIn K H ps vs → NmIn K H (p :: ps) (v :: vs)
theorem NmIn.at {K : PySem.W.Frag} {H : Hp} : ∀ {ps : List Addr} {vs : List V}, NmIn K H ps vs → ∀ {i : Nat} {p : Addr}, ps[i]? = some p → ∃ v, vs[i]? = some v ∧ ∃ C d : Addr, H p = some (exo p C (some d)) ∧ H d = some (exd d [("name", v)]) ∧ XfC K C ∧ PySem.W.findIn K (.ref C) "name" = some none
  | _, _, .nil, i, p, h => by simp at h
  | _, _, .cons x r, 0, p, h => by
    have z := Option.some.inj h
    subst z
    exact ⟨_, rfl, x⟩
  | _, _, .cons x r, i + 1, p, h => r.at (i := i) (by simpa using h)
theorem NmIn.kp0 {K : PySem.W.Frag} {H H' : Hp} {ps : List Addr} {vs : List V} (h : NmIn K H ps vs) (k : Kp [] H H') : NmIn K H' ps vs := by
  induction h with
  | nil => exact .nil
  | cons x _ ih =>
    obtain ⟨C, d, h1, h2, h3⟩ := x
    exact .cons ⟨C, d, k.at0 h1, k.at0 h2, h3⟩ ih
theorem NmIn.full {K : PySem.W.Frag} {H : Hp} {ps : List Addr} {vs : List V} (h : NmIn K H ps vs) : vs.take ps.length = vs := by
  have e : ps.length = vs.length := by
    induction h with
    | nil => rfl
    | cons _ _ ih => simp [ih]
  rw [e, List.take_length]
theorem lk1 {f : Str} {v : V} : List.lookup f [(f, v)] = some v := by simp [List.lookup]
theorem lk2a {f g : Str} {v u : V} : List.lookup g [(g, u), (f, v)] = some u := by simp [List.lookup]
theorem lk2b {f g : Str} {v u : V} (h : (f == g) = false) : List.lookup f [(g, u), (f, v)] = some v := by simp [List.lookup, h]
theorem p59 : (0 : Int) < 10 ^ Int.toNat 59 := by decide +kernel
theorem marks_eq {c s i : Nat} {f : Int} (h : c = s + i) (hf : f = (s : Int)) : ((List.range 23).map fun k => decide (c = k)) = (List.range (Int.toNat 23)).map fun (k : Nat) => decide ((k : Int) = f + (i : Int)) := by
  show (List.range 23).map _ = (List.range 23).map _
  congr 1
  funext k
  subst hf
  by_cases e : c = k
  · rw [decide_eq_true e, decide_eq_true (by omega)]
  · rw [decide_eq_false e, decide_eq_false (by omega)]
end Lk
namespace Lk
theorem p9 : (0 : Int) < 10 ^ Int.toNat 9 := by decide +kernel
theorem e9 : (10 : Int) ^ Int.toNat 9 = 1000000000 := by decide +kernel
end Lk
namespace Lk
theorem take_le {α : Type} {xs names : List α} {k : Nat} (h : xs = names.take k) : xs.length ≤ names.length := by rw [h, List.length_take]; exact Nat.min_le_right _ _
end Lk
set_option Elab.async false
set_option linter.all false
set_option maxRecDepth 100000
namespace Lk
open PySem L2
/-- what the written part says of an exception class of the package: under LookError, under ValueError -/
abbrev lineOf (L : Addr) : List Value := [.ref L, .type "ValueError", .type "Exception", .type "BaseException", .type "object"]
structure Cl (K : PySem.W.Frag) (L C : Addr) : Prop where
  cls : ∃ cd, PySem.W.clsIn K C = some cd ∧ cd.mro = .ref C :: lineOf L
  tyC : PySem.W.typeIn K (.ref C) = some (.type "type")
theorem cl_of {K : PySem.W.Frag} {L C : Addr} {nm q N bs sn sub ab col dd k0 k1 k2 k3 k5}
    (h : K.lookup C = some (excClassObj nm q C N bs (lineOf L) true sn sub ab col dd k0 k1 k2 k3 k5 "ValueError.__new__")) (t : PySem.W.typeIn K (.ref C) = some (.type "type")) : Cl K L C := by
  refine ⟨⟨_, by unfold PySem.W.clsIn; rw [h] <;> rfl, rfl⟩, t⟩
theorem refs_line (L : Addr) : PySem.HandSPX.refsVE (lineOf L) = true := by
  show PySem.HandSPX.refsVE [.type "ValueError", .type "Exception", .type "BaseException", .type "object"] = true
  decide +kernel
theorem Cl.sub {K : PySem.W.Frag} {L C : Addr} (c : Cl K L C) (v : Value) : PySem.W.subIn K (.ref C) v = some ((Value.ref C :: lineOf L).contains v) := by
  obtain ⟨cd, h, m⟩ := c.cls
  show PySem.W.mroIn K C v = _
  unfold PySem.W.mroIn
  rw [h, Option.bind_some, m]
  rfl
theorem Cl.kit {K : PySem.W.Frag} {L C D : Addr} (c : Cl K L C) (d : Cl K L D) (ne : D ≠ L) : PySem.W.kitOne K (.ref C) (.ref D) = some (decide (C = D)) := by
  unfold PySem.W.kitOne
  by_cases e : C = D
  · subst e
    rw [if_pos (by simp), decide_eq_true rfl]
  · rw [if_neg (by simpa using e), decide_eq_false e]
    obtain ⟨cd, h, _⟩ := d.cls
    show (if ((PySem.W.clsIn K D).isSome && PySem.W.typeIn K (.ref D) == some (.type "type")) = true then PySem.W.subIn K (.ref C) (.ref D) else none) = _
    rw [if_pos (by rw [h, d.tyC]; rfl), c.sub]
    congr 1
    simp [lineOf, Ne.symm e, ne, fun z => e (Eq.symm z)]
theorem Cl.kitL {K : PySem.W.Frag} {L C : Addr} (c : Cl K L C) (hL : PySem.W.isClsIn K L = true) (tL : PySem.W.typeIn K (.ref L) = some (.type "type")) : PySem.W.kitOne K (.ref C) (.ref L) = some true := by
  unfold PySem.W.kitOne
  by_cases e : C = L
  · subst e; rw [if_pos (by simp)]
  · rw [if_neg (by simpa using e)]
    have hL : (PySem.W.clsIn K L).isSome = true := hL
    show (if ((PySem.W.clsIn K L).isSome && PySem.W.typeIn K (.ref L) == some (.type "type")) = true then PySem.W.subIn K (.ref C) (.ref L) else none) = _
    rw [if_pos (by rw [hL, tL]; rfl), c.sub]
    congr 1
    simp [lineOf]
theorem Cl.kitV {K : PySem.W.Frag} {L C : Addr} (c : Cl K L C) : PySem.W.kitOne K (.ref C) (.type "ValueError") = some true := by
  unfold PySem.W.kitOne
  rw [if_neg (by simp)]
  show (if PySem.W.kitMeta "ValueError" = true then PySem.W.subIn K (.ref C) (.type "ValueError") else none) = _
  rw [if_pos (by decide +kernel), c.sub]
  simp [lineOf]
theorem getD_inj {l : List Addr} (h : l.Nodup) {i j : Nat} (hi : i < l.length) (hj : j < l.length) : (l.getD i 0 = l.getD j 0) ↔ i = j := by
  rw [List.getD_eq_getElem?_getD, List.getD_eq_getElem?_getD, List.getElem?_eq_getElem hi, List.getElem?_eq_getElem hj]
  constructor
  · intro e
    exact get_inj h (List.getElem?_eq_getElem hi) (by rw [List.getElem?_eq_getElem hj]; exact congrArg some e.symm)
  · intro e; subst e; rfl
end Lk
namespace Lk
open PySem L2
theorem getD_mem {α : Type} {l : List α} {x : α} {i : Nat} (h : i < l.length) : l.getD i x ∈ l := by
  rw [List.getD_eq_getElem?_getD, List.getElem?_eq_getElem h]
  exact List.getElem_mem h
def sp_end (K : PySem.W.Frag) : Sp := fun vs H Q _ => ∃ (a : Addr) (ns : List Int), vs = [.ref a] ∧ SqL K H a (ns.map V.int) ∧ ns.length ≤ 63 ∧ ∀ H' : Hp, Kp [] H H' → Q (.bl true) H'
end Lk
set_option Elab.async false
set_option linter.all false
set_option maxRecDepth 100000
set_option maxHeartbeats 8000000
namespace Lk
open PySem L2
def top (i : Nat) : Stmt := PySem.Challenge.pw_lookrows_k01_errors_made.main.body.getD i (.Pass ⟨0, 0, 0, 0⟩)
abbrev s__law_cell : Stmt := top 26
abbrev N__law_cell : List Str := ["_law_script", "_law_k"]
abbrev ps__law_cell : List Str := ["_law_script", "_law_k"]
theorem sc__law_cell : FnScope N__law_cell ps__law_cell (defScope s__law_cell) := ⟨rfl, rfl, rfl, by decide +kernel, rfl, by decide +kernel, by decide +kernel⟩
abbrev s__law_thing : Stmt := top 27
abbrev N__law_thing : List Str := ["_law_cell_here", "_law_kind", "_law_number"]
abbrev ps__law_thing : List Str := ["_law_cell_here"]
theorem sc__law_thing : FnScope N__law_thing ps__law_thing (defScope s__law_thing) := ⟨rfl, rfl, rfl, by decide +kernel, rfl, by decide +kernel, by decide +kernel⟩
abbrev s__law_marks : Stmt := top 28
abbrev N__law_marks : List Str := ["_law_error", "_law_marks_here"]
abbrev ps__law_marks : List Str := ["_law_error"]
theorem sc__law_marks : FnScope N__law_marks ps__law_marks (defScope s__law_marks) := ⟨rfl, rfl, rfl, by decide +kernel, rfl, by decide +kernel, by decide +kernel⟩
abbrev s__law_alone : Stmt := top 30
abbrev N__law_alone : List Str := ["_law_errors", "_law_first", "_law_place", "_law_error", "_law_k"]
abbrev ps__law_alone : List Str := ["_law_errors", "_law_first"]
theorem sc__law_alone : FnScope N__law_alone ps__law_alone (defScope s__law_alone) := ⟨rfl, rfl, rfl, by decide +kernel, rfl, by decide +kernel, by decide +kernel⟩
abbrev s__law_single : Stmt := top 29
abbrev N__law_single : List Str := ["_law_a", "_law_b", "_law_errors"]
abbrev ps__law_single : List Str := ["_law_a", "_law_b"]
theorem sc__law_single : FnScope N__law_single ps__law_single (defScope s__law_single) := ⟨rfl, rfl, rfl, by decide +kernel, rfl, by decide +kernel, by decide +kernel⟩
abbrev s__law_pairs : Stmt := top 31
abbrev N__law_pairs : List Str := ["_law_a", "_law_b", "_law_early", "_law_kept", "_law_rule", "_law_far"]
abbrev ps__law_pairs : List Str := ["_law_a", "_law_b"]
theorem sc__law_pairs : FnScope N__law_pairs ps__law_pairs (defScope s__law_pairs) := ⟨rfl, rfl, rfl, by decide +kernel, rfl, by decide +kernel, by decide +kernel⟩
abbrev s_law : Stmt := top 32
abbrev N_law : List Str := ["_law_script", "_law_a", "_law_b", "_law_singles", "_law_number", "_law_ring", "_law_item", "_law_empty", "_law_bar", "_law_soon", "_law_line", "_law_kept", "_law_error"]
abbrev ps_law : List Str := ["_law_script"]
theorem sc_law : FnScope N_law ps_law (defScope s_law) := ⟨rfl, rfl, rfl, by decide +kernel, rfl, by decide +kernel, by decide +kernel⟩
abbrev s_BadName___init__ : Stmt := inClass (top 2) 0
abbrev ps_BadName___init__ : List Str := ["self", "name"]
theorem sc_BadName___init__ : FnScope ps_BadName___init__ ps_BadName___init__ (defScope s_BadName___init__) := ⟨rfl, rfl, rfl, by decide +kernel, rfl, by decide +kernel, by decide +kernel⟩
abbrev s_NameTaken___init__ : Stmt := inClass (top 3) 0
abbrev ps_NameTaken___init__ : List Str := ["self", "name"]
theorem sc_NameTaken___init__ : FnScope ps_NameTaken___init__ ps_NameTaken___init__ (defScope s_NameTaken___init__) := ⟨rfl, rfl, rfl, by decide +kernel, rfl, by decide +kernel, by decide +kernel⟩
abbrev s_NoStep___init__ : Stmt := inClass (top 4) 0
abbrev ps_NoStep___init__ : List Str := ["self", "name"]
theorem sc_NoStep___init__ : FnScope ps_NoStep___init__ ps_NoStep___init__ (defScope s_NoStep___init__) := ⟨rfl, rfl, rfl, by decide +kernel, rfl, by decide +kernel, by decide +kernel⟩
abbrev s_NoFile___init__ : Stmt := inClass (top 5) 0
abbrev ps_NoFile___init__ : List Str := ["self", "name"]
theorem sc_NoFile___init__ : FnScope ps_NoFile___init__ ps_NoFile___init__ (defScope s_NoFile___init__) := ⟨rfl, rfl, rfl, by decide +kernel, rfl, by decide +kernel, by decide +kernel⟩
abbrev s_NoReader___init__ : Stmt := inClass (top 6) 0
abbrev ps_NoReader___init__ : List Str := ["self", "name"]
theorem sc_NoReader___init__ : FnScope ps_NoReader___init__ ps_NoReader___init__ (defScope s_NoReader___init__) := ⟨rfl, rfl, rfl, by decide +kernel, rfl, by decide +kernel, by decide +kernel⟩
abbrev s_NoRow___init__ : Stmt := inClass (top 7) 0
abbrev ps_NoRow___init__ : List Str := ["self", "name"]
theorem sc_NoRow___init__ : FnScope ps_NoRow___init__ ps_NoRow___init__ (defScope s_NoRow___init__) := ⟨rfl, rfl, rfl, by decide +kernel, rfl, by decide +kernel, by decide +kernel⟩
abbrev s_Clash___init__ : Stmt := inClass (top 8) 0
abbrev ps_Clash___init__ : List Str := ["self", "name"]
theorem sc_Clash___init__ : FnScope ps_Clash___init__ ps_Clash___init__ (defScope s_Clash___init__) := ⟨rfl, rfl, rfl, by decide +kernel, rfl, by decide +kernel, by decide +kernel⟩
abbrev s_SameStep___init__ : Stmt := inClass (top 9) 0
abbrev ps_SameStep___init__ : List Str := ["self", "name"]
theorem sc_SameStep___init__ : FnScope ps_SameStep___init__ ps_SameStep___init__ (defScope s_SameStep___init__) := ⟨rfl, rfl, rfl, by decide +kernel, rfl, by decide +kernel, by decide +kernel⟩
abbrev s_SameFile___init__ : Stmt := inClass (top 10) 0
abbrev ps_SameFile___init__ : List Str := ["self", "name"]
theorem sc_SameFile___init__ : FnScope ps_SameFile___init__ ps_SameFile___init__ (defScope s_SameFile___init__) := ⟨rfl, rfl, rfl, by decide +kernel, rfl, by decide +kernel, by decide +kernel⟩
abbrev s_BadNumber___init__ : Stmt := inClass (top 11) 0
abbrev ps_BadNumber___init__ : List Str := ["self", "value"]
theorem sc_BadNumber___init__ : FnScope ps_BadNumber___init__ ps_BadNumber___init__ (defScope s_BadNumber___init__) := ⟨rfl, rfl, rfl, by decide +kernel, rfl, by decide +kernel, by decide +kernel⟩
abbrev s_ZeroRing___init__ : Stmt := inClass (top 12) 0
abbrev ps_ZeroRing___init__ : List Str := ["self", "members"]
theorem sc_ZeroRing___init__ : FnScope ps_ZeroRing___init__ ps_ZeroRing___init__ (defScope s_ZeroRing___init__) := ⟨rfl, rfl, rfl, by decide +kernel, rfl, by decide +kernel, by decide +kernel⟩
abbrev s_BadItem___init__ : Stmt := inClass (top 13) 0
abbrev ps_BadItem___init__ : List Str := ["self", "place"]
theorem sc_BadItem___init__ : FnScope ps_BadItem___init__ ps_BadItem___init__ (defScope s_BadItem___init__) := ⟨rfl, rfl, rfl, by decide +kernel, rfl, by decide +kernel, by decide +kernel⟩
abbrev s_NotYet___init__ : Stmt := inClass (top 14) 0
abbrev ps_NotYet___init__ : List Str := ["self", "place", "step"]
theorem sc_NotYet___init__ : FnScope ps_NotYet___init__ ps_NotYet___init__ (defScope s_NotYet___init__) := ⟨rfl, rfl, rfl, by decide +kernel, rfl, by decide +kernel, by decide +kernel⟩
abbrev s_NoSet___init__ : Stmt := inClass (top 15) 0
abbrev ps_NoSet___init__ : List Str := ["self", "members"]
theorem sc_NoSet___init__ : FnScope ps_NoSet___init__ ps_NoSet___init__ (defScope s_NoSet___init__) := ⟨rfl, rfl, rfl, by decide +kernel, rfl, by decide +kernel, by decide +kernel⟩
abbrev s_Barred___init__ : Stmt := inClass (top 16) 0
abbrev ps_Barred___init__ : List Str := ["self", "pieces"]
theorem sc_Barred___init__ : FnScope ps_Barred___init__ ps_Barred___init__ (defScope s_Barred___init__) := ⟨rfl, rfl, rfl, by decide +kernel, rfl, by decide +kernel, by decide +kernel⟩
abbrev s_NotKept___init__ : Stmt := inClass (top 17) 0
abbrev ps_NotKept___init__ : List Str := ["self", "first", "second"]
theorem sc_NotKept___init__ : FnScope ps_NotKept___init__ ps_NotKept___init__ (defScope s_NotKept___init__) := ⟨rfl, rfl, rfl, by decide +kernel, rfl, by decide +kernel, by decide +kernel⟩
abbrev s_NoRule___init__ : Stmt := inClass (top 18) 0
abbrev ps_NoRule___init__ : List Str := ["self", "first", "second"]
theorem sc_NoRule___init__ : FnScope ps_NoRule___init__ ps_NoRule___init__ (defScope s_NoRule___init__) := ⟨rfl, rfl, rfl, by decide +kernel, rfl, by decide +kernel, by decide +kernel⟩
abbrev s_TooEarly___init__ : Stmt := inClass (top 19) 0
abbrev ps_TooEarly___init__ : List Str := ["self", "place"]
theorem sc_TooEarly___init__ : FnScope ps_TooEarly___init__ ps_TooEarly___init__ (defScope s_TooEarly___init__) := ⟨rfl, rfl, rfl, by decide +kernel, rfl, by decide +kernel, by decide +kernel⟩
abbrev s_TooFar___init__ : Stmt := inClass (top 20) 0
abbrev ps_TooFar___init__ : List Str := ["self", "first", "second"]
theorem sc_TooFar___init__ : FnScope ps_TooFar___init__ ps_TooFar___init__ (defScope s_TooFar___init__) := ⟨rfl, rfl, rfl, by decide +kernel, rfl, by decide +kernel, by decide +kernel⟩
abbrev s_BadLine___init__ : Stmt := inClass (top 24) 0
abbrev ps_BadLine___init__ : List Str := ["self", "line"]
theorem sc_BadLine___init__ : FnScope ps_BadLine___init__ ps_BadLine___init__ (defScope s_BadLine___init__) := ⟨rfl, rfl, rfl, by decide +kernel, rfl, by decide +kernel, by decide +kernel⟩
structure Ad where
  e : Nat → Addr
  L : Addr
  f__law_cell : Addr
  f__law_thing : Addr
  f__law_marks : Addr
  f__law_alone : Addr
  f__law_single : Addr
  f__law_pairs : Addr
  f_law : Addr
  f_BadName___init__ : Addr
  f_NameTaken___init__ : Addr
  f_NoStep___init__ : Addr
  f_NoFile___init__ : Addr
  f_NoReader___init__ : Addr
  f_NoRow___init__ : Addr
  f_Clash___init__ : Addr
  f_SameStep___init__ : Addr
  f_SameFile___init__ : Addr
  f_BadNumber___init__ : Addr
  f_ZeroRing___init__ : Addr
  f_BadItem___init__ : Addr
  f_NotYet___init__ : Addr
  f_NoSet___init__ : Addr
  f_Barred___init__ : Addr
  f_NotKept___init__ : Addr
  f_NoRule___init__ : Addr
  f_TooEarly___init__ : Addr
  f_TooFar___init__ : Addr
  f_BadLine___init__ : Addr
  d__law_cell : FuncData
  d__law_thing : FuncData
  d__law_marks : FuncData
  d__law_alone : FuncData
  d__law_single : FuncData
  d__law_pairs : FuncData
  d_law : FuncData
  d_BadName___init__ : FuncData
  d_NameTaken___init__ : FuncData
  d_NoStep___init__ : FuncData
  d_NoFile___init__ : FuncData
  d_NoReader___init__ : FuncData
  d_NoRow___init__ : FuncData
  d_Clash___init__ : FuncData
  d_SameStep___init__ : FuncData
  d_SameFile___init__ : FuncData
  d_BadNumber___init__ : FuncData
  d_ZeroRing___init__ : FuncData
  d_BadItem___init__ : FuncData
  d_NotYet___init__ : FuncData
  d_NoSet___init__ : FuncData
  d_Barred___init__ : FuncData
  d_NotKept___init__ : FuncData
  d_NoRule___init__ : FuncData
  d_TooEarly___init__ : FuncData
  d_TooFar___init__ : FuncData
  d_BadLine___init__ : FuncData
def sp__law_cell (K : PySem.W.Frag) (A : Ad) : Sp := fun vs H Q _ => ∃ (a : Addr) (ns : List Int) (j : Int), vs = [.ref a, .int j] ∧ SqL K H a (ns.map V.int) ∧ 0 ≤ j ∧ ∀ (x : Int), Q (.int x) H
def sp__law_thing (K : PySem.W.Frag) (A : Ad) : Sp := fun vs H Q _ => ∃ (x : Int), vs = [.int x] ∧ ∀ (v : V) (d : PyData) (H' : Hp), Kp [] H H' → (Dat K H' v d) → Q (v) H'
def sp__law_marks (K : PySem.W.Frag) (A : Ad) : Sp := fun vs H Q _ => ∃ (a : Addr) (c : Nat), vs = [.ref a] ∧ Exc H a (A.e c) ∧ c < 23 ∧ ∀ (l : Addr) (H' : Hp), Kp [] H H' → (H l = none) → (H' l = some (.lst (((List.range 23).map fun k => decide (c = k)).map V.bl))) → Q (.ref l) H'
def sp__law_alone (K : PySem.W.Frag) (A : Ad) : Sp := fun vs H Q _ => ∃ (l : Addr) (f : Int) (s : Nat) (n : Nat), vs = [.ref l, .int f] ∧ Exs H l (List.range' s n) A.e ∧ f = (s : Int) ∧ s + n ≤ 23 ∧ n ≤ 100 ∧ ∀  (H' : Hp), Kp [] H H' → Q (.bl true) H'
def sp__law_single (K : PySem.W.Frag) (A : Ad) : Sp := fun vs H Q _ => ∃ (v : V) (u : V) (d1 : PyData) (d2 : PyData), vs = [v, u] ∧ Dat K H v d1 ∧ Dat K H u d2 ∧ ∀ (l : Addr) (ps : List Addr) (H' : Hp), Kp [] H H' → (H l = none) → (H' l = some (.lst (ps.map V.ref))) → (ExIn A.e H' ps (List.range' 0 9)) → (NmIn K H' ps [v, u, v, u, v, u, v, u, v]) → Q (.ref l) H'
def sp__law_pairs (K : PySem.W.Frag) (A : Ad) : Sp := fun vs H Q _ => ∃ (v : V) (u : V) (d1 : PyData) (d2 : PyData), vs = [v, u] ∧ Dat K H v d1 ∧ Dat K H u d2 ∧ ∀  (H' : Hp), Kp [] H H' → Q (.bl true) H'
def sp_law (K : PySem.W.Frag) (A : Ad) : Sp := fun vs H Q _ => ∃ (a : Addr) (ns : List Int), vs = [.ref a] ∧ SqL K H a (ns.map V.int) ∧ ns.length ≤ 63 ∧ ∀  (H' : Hp), Kp [] H H' → Q (.bl true) H'
structure Tx (K : PySem.W.Frag) (mg : Str → Option Value) (A : Ad) : Prop where
  n_ValueError : mg "ValueError" = none
  n_enumerate : mg "enumerate" = none
  n_int : mg "int" = none
  n_isinstance : mg "isinstance" = none
  n_len : mg "len" = none
  n_range : mg "range" = none
  n_str : mg "str" = none
  F__law_cell : Fun K "_law_cell" "_law_cell" s__law_cell A.f__law_cell A.d__law_cell
  g__law_cell : mg "_law_cell" = some (.ref A.f__law_cell)
  F__law_thing : Fun K "_law_thing" "_law_thing" s__law_thing A.f__law_thing A.d__law_thing
  g__law_thing : mg "_law_thing" = some (.ref A.f__law_thing)
  F__law_marks : Fun K "_law_marks" "_law_marks" s__law_marks A.f__law_marks A.d__law_marks
  g__law_marks : mg "_law_marks" = some (.ref A.f__law_marks)
  F__law_alone : Fun K "_law_alone" "_law_alone" s__law_alone A.f__law_alone A.d__law_alone
  g__law_alone : mg "_law_alone" = some (.ref A.f__law_alone)
  F__law_single : Fun K "_law_single" "_law_single" s__law_single A.f__law_single A.d__law_single
  g__law_single : mg "_law_single" = some (.ref A.f__law_single)
  F__law_pairs : Fun K "_law_pairs" "_law_pairs" s__law_pairs A.f__law_pairs A.d__law_pairs
  g__law_pairs : mg "_law_pairs" = some (.ref A.f__law_pairs)
  F_law : Fun K "law" "law" s_law A.f_law A.d_law
  g_law : mg "law" = some (.ref A.f_law)
  F_BadName___init__ : Fun K "__init__" "BadName.__init__" s_BadName___init__ A.f_BadName___init__ A.d_BadName___init__
  oex_BadName : OexC K (A.e 0)
  ini_BadName : PySem.W.findIn K (.ref (A.e 0)) "__init__" = some (some (.ref A.f_BadName___init__))
  tin_BadName : PySem.W.typeIn K (.ref A.f_BadName___init__) = some (.type "function")
  xf_BadName : XfC K (A.e 0)
  nf_BadName_name : PySem.W.findIn K (.ref (A.e 0)) "name" = some none
  F_NameTaken___init__ : Fun K "__init__" "NameTaken.__init__" s_NameTaken___init__ A.f_NameTaken___init__ A.d_NameTaken___init__
  oex_NameTaken : OexC K (A.e 1)
  ini_NameTaken : PySem.W.findIn K (.ref (A.e 1)) "__init__" = some (some (.ref A.f_NameTaken___init__))
  tin_NameTaken : PySem.W.typeIn K (.ref A.f_NameTaken___init__) = some (.type "function")
  xf_NameTaken : XfC K (A.e 1)
  nf_NameTaken_name : PySem.W.findIn K (.ref (A.e 1)) "name" = some none
  F_NoStep___init__ : Fun K "__init__" "NoStep.__init__" s_NoStep___init__ A.f_NoStep___init__ A.d_NoStep___init__
  oex_NoStep : OexC K (A.e 2)
  ini_NoStep : PySem.W.findIn K (.ref (A.e 2)) "__init__" = some (some (.ref A.f_NoStep___init__))
  tin_NoStep : PySem.W.typeIn K (.ref A.f_NoStep___init__) = some (.type "function")
  xf_NoStep : XfC K (A.e 2)
  nf_NoStep_name : PySem.W.findIn K (.ref (A.e 2)) "name" = some none
  F_NoFile___init__ : Fun K "__init__" "NoFile.__init__" s_NoFile___init__ A.f_NoFile___init__ A.d_NoFile___init__
  oex_NoFile : OexC K (A.e 3)
  ini_NoFile : PySem.W.findIn K (.ref (A.e 3)) "__init__" = some (some (.ref A.f_NoFile___init__))
  tin_NoFile : PySem.W.typeIn K (.ref A.f_NoFile___init__) = some (.type "function")
  xf_NoFile : XfC K (A.e 3)
  nf_NoFile_name : PySem.W.findIn K (.ref (A.e 3)) "name" = some none
  F_NoReader___init__ : Fun K "__init__" "NoReader.__init__" s_NoReader___init__ A.f_NoReader___init__ A.d_NoReader___init__
  oex_NoReader : OexC K (A.e 4)
  ini_NoReader : PySem.W.findIn K (.ref (A.e 4)) "__init__" = some (some (.ref A.f_NoReader___init__))
  tin_NoReader : PySem.W.typeIn K (.ref A.f_NoReader___init__) = some (.type "function")
  xf_NoReader : XfC K (A.e 4)
  nf_NoReader_name : PySem.W.findIn K (.ref (A.e 4)) "name" = some none
  F_NoRow___init__ : Fun K "__init__" "NoRow.__init__" s_NoRow___init__ A.f_NoRow___init__ A.d_NoRow___init__
  oex_NoRow : OexC K (A.e 5)
  ini_NoRow : PySem.W.findIn K (.ref (A.e 5)) "__init__" = some (some (.ref A.f_NoRow___init__))
  tin_NoRow : PySem.W.typeIn K (.ref A.f_NoRow___init__) = some (.type "function")
  xf_NoRow : XfC K (A.e 5)
  nf_NoRow_name : PySem.W.findIn K (.ref (A.e 5)) "name" = some none
  F_Clash___init__ : Fun K "__init__" "Clash.__init__" s_Clash___init__ A.f_Clash___init__ A.d_Clash___init__
  oex_Clash : OexC K (A.e 6)
  ini_Clash : PySem.W.findIn K (.ref (A.e 6)) "__init__" = some (some (.ref A.f_Clash___init__))
  tin_Clash : PySem.W.typeIn K (.ref A.f_Clash___init__) = some (.type "function")
  xf_Clash : XfC K (A.e 6)
  nf_Clash_name : PySem.W.findIn K (.ref (A.e 6)) "name" = some none
  F_SameStep___init__ : Fun K "__init__" "SameStep.__init__" s_SameStep___init__ A.f_SameStep___init__ A.d_SameStep___init__
  oex_SameStep : OexC K (A.e 7)
  ini_SameStep : PySem.W.findIn K (.ref (A.e 7)) "__init__" = some (some (.ref A.f_SameStep___init__))
  tin_SameStep : PySem.W.typeIn K (.ref A.f_SameStep___init__) = some (.type "function")
  xf_SameStep : XfC K (A.e 7)
  nf_SameStep_name : PySem.W.findIn K (.ref (A.e 7)) "name" = some none
  F_SameFile___init__ : Fun K "__init__" "SameFile.__init__" s_SameFile___init__ A.f_SameFile___init__ A.d_SameFile___init__
  oex_SameFile : OexC K (A.e 8)
  ini_SameFile : PySem.W.findIn K (.ref (A.e 8)) "__init__" = some (some (.ref A.f_SameFile___init__))
  tin_SameFile : PySem.W.typeIn K (.ref A.f_SameFile___init__) = some (.type "function")
  xf_SameFile : XfC K (A.e 8)
  nf_SameFile_name : PySem.W.findIn K (.ref (A.e 8)) "name" = some none
  F_BadNumber___init__ : Fun K "__init__" "BadNumber.__init__" s_BadNumber___init__ A.f_BadNumber___init__ A.d_BadNumber___init__
  oex_BadNumber : OexC K (A.e 9)
  ini_BadNumber : PySem.W.findIn K (.ref (A.e 9)) "__init__" = some (some (.ref A.f_BadNumber___init__))
  tin_BadNumber : PySem.W.typeIn K (.ref A.f_BadNumber___init__) = some (.type "function")
  xf_BadNumber : XfC K (A.e 9)
  nf_BadNumber_value : PySem.W.findIn K (.ref (A.e 9)) "value" = some none
  F_ZeroRing___init__ : Fun K "__init__" "ZeroRing.__init__" s_ZeroRing___init__ A.f_ZeroRing___init__ A.d_ZeroRing___init__
  oex_ZeroRing : OexC K (A.e 10)
  ini_ZeroRing : PySem.W.findIn K (.ref (A.e 10)) "__init__" = some (some (.ref A.f_ZeroRing___init__))
  tin_ZeroRing : PySem.W.typeIn K (.ref A.f_ZeroRing___init__) = some (.type "function")
  xf_ZeroRing : XfC K (A.e 10)
  nf_ZeroRing_members : PySem.W.findIn K (.ref (A.e 10)) "members" = some none
  F_BadItem___init__ : Fun K "__init__" "BadItem.__init__" s_BadItem___init__ A.f_BadItem___init__ A.d_BadItem___init__
  oex_BadItem : OexC K (A.e 11)
  ini_BadItem : PySem.W.findIn K (.ref (A.e 11)) "__init__" = some (some (.ref A.f_BadItem___init__))
  tin_BadItem : PySem.W.typeIn K (.ref A.f_BadItem___init__) = some (.type "function")
  xf_BadItem : XfC K (A.e 11)
  nf_BadItem_place : PySem.W.findIn K (.ref (A.e 11)) "place" = some none
  F_NotYet___init__ : Fun K "__init__" "NotYet.__init__" s_NotYet___init__ A.f_NotYet___init__ A.d_NotYet___init__
  oex_NotYet : OexC K (A.e 12)
  ini_NotYet : PySem.W.findIn K (.ref (A.e 12)) "__init__" = some (some (.ref A.f_NotYet___init__))
  tin_NotYet : PySem.W.typeIn K (.ref A.f_NotYet___init__) = some (.type "function")
  xf_NotYet : XfC K (A.e 12)
  nf_NotYet_place : PySem.W.findIn K (.ref (A.e 12)) "place" = some none
  nf_NotYet_step : PySem.W.findIn K (.ref (A.e 12)) "step" = some none
  F_NoSet___init__ : Fun K "__init__" "NoSet.__init__" s_NoSet___init__ A.f_NoSet___init__ A.d_NoSet___init__
  oex_NoSet : OexC K (A.e 13)
  ini_NoSet : PySem.W.findIn K (.ref (A.e 13)) "__init__" = some (some (.ref A.f_NoSet___init__))
  tin_NoSet : PySem.W.typeIn K (.ref A.f_NoSet___init__) = some (.type "function")
  xf_NoSet : XfC K (A.e 13)
  nf_NoSet_members : PySem.W.findIn K (.ref (A.e 13)) "members" = some none
  F_Barred___init__ : Fun K "__init__" "Barred.__init__" s_Barred___init__ A.f_Barred___init__ A.d_Barred___init__
  oex_Barred : OexC K (A.e 14)
  ini_Barred : PySem.W.findIn K (.ref (A.e 14)) "__init__" = some (some (.ref A.f_Barred___init__))
  tin_Barred : PySem.W.typeIn K (.ref A.f_Barred___init__) = some (.type "function")
  xf_Barred : XfC K (A.e 14)
  nf_Barred_pieces : PySem.W.findIn K (.ref (A.e 14)) "pieces" = some none
  F_NotKept___init__ : Fun K "__init__" "NotKept.__init__" s_NotKept___init__ A.f_NotKept___init__ A.d_NotKept___init__
  oex_NotKept : OexC K (A.e 15)
  ini_NotKept : PySem.W.findIn K (.ref (A.e 15)) "__init__" = some (some (.ref A.f_NotKept___init__))
  tin_NotKept : PySem.W.typeIn K (.ref A.f_NotKept___init__) = some (.type "function")
  xf_NotKept : XfC K (A.e 15)
  nf_NotKept_first : PySem.W.findIn K (.ref (A.e 15)) "first" = some none
  nf_NotKept_second : PySem.W.findIn K (.ref (A.e 15)) "second" = some none
  F_NoRule___init__ : Fun K "__init__" "NoRule.__init__" s_NoRule___init__ A.f_NoRule___init__ A.d_NoRule___init__
  oex_NoRule : OexC K (A.e 16)
  ini_NoRule : PySem.W.findIn K (.ref (A.e 16)) "__init__" = some (some (.ref A.f_NoRule___init__))
  tin_NoRule : PySem.W.typeIn K (.ref A.f_NoRule___init__) = some (.type "function")
  xf_NoRule : XfC K (A.e 16)
  nf_NoRule_first : PySem.W.findIn K (.ref (A.e 16)) "first" = some none
  nf_NoRule_second : PySem.W.findIn K (.ref (A.e 16)) "second" = some none
  F_TooEarly___init__ : Fun K "__init__" "TooEarly.__init__" s_TooEarly___init__ A.f_TooEarly___init__ A.d_TooEarly___init__
  oex_TooEarly : OexC K (A.e 17)
  ini_TooEarly : PySem.W.findIn K (.ref (A.e 17)) "__init__" = some (some (.ref A.f_TooEarly___init__))
  tin_TooEarly : PySem.W.typeIn K (.ref A.f_TooEarly___init__) = some (.type "function")
  xf_TooEarly : XfC K (A.e 17)
  nf_TooEarly_place : PySem.W.findIn K (.ref (A.e 17)) "place" = some none
  F_TooFar___init__ : Fun K "__init__" "TooFar.__init__" s_TooFar___init__ A.f_TooFar___init__ A.d_TooFar___init__
  oex_TooFar : OexC K (A.e 18)
  ini_TooFar : PySem.W.findIn K (.ref (A.e 18)) "__init__" = some (some (.ref A.f_TooFar___init__))
  tin_TooFar : PySem.W.typeIn K (.ref A.f_TooFar___init__) = some (.type "function")
  xf_TooFar : XfC K (A.e 18)
  nf_TooFar_first : PySem.W.findIn K (.ref (A.e 18)) "first" = some none
  nf_TooFar_second : PySem.W.findIn K (.ref (A.e 18)) "second" = some none
  F_BadLine___init__ : Fun K "__init__" "BadLine.__init__" s_BadLine___init__ A.f_BadLine___init__ A.d_BadLine___init__
  oex_BadLine : OexC K (A.e 22)
  ini_BadLine : PySem.W.findIn K (.ref (A.e 22)) "__init__" = some (some (.ref A.f_BadLine___init__))
  tin_BadLine : PySem.W.typeIn K (.ref A.f_BadLine___init__) = some (.type "function")
  xf_BadLine : XfC K (A.e 22)
  nf_BadLine_line : PySem.W.findIn K (.ref (A.e 22)) "line" = some none
  g_BadName : mg "BadName" = some (.ref (A.e 0))
  g_NameTaken : mg "NameTaken" = some (.ref (A.e 1))
  g_NoStep : mg "NoStep" = some (.ref (A.e 2))
  g_NoFile : mg "NoFile" = some (.ref (A.e 3))
  g_NoReader : mg "NoReader" = some (.ref (A.e 4))
  g_NoRow : mg "NoRow" = some (.ref (A.e 5))
  g_Clash : mg "Clash" = some (.ref (A.e 6))
  g_SameStep : mg "SameStep" = some (.ref (A.e 7))
  g_SameFile : mg "SameFile" = some (.ref (A.e 8))
  g_BadNumber : mg "BadNumber" = some (.ref (A.e 9))
  g_ZeroRing : mg "ZeroRing" = some (.ref (A.e 10))
  g_BadItem : mg "BadItem" = some (.ref (A.e 11))
  g_NotYet : mg "NotYet" = some (.ref (A.e 12))
  g_NoSet : mg "NoSet" = some (.ref (A.e 13))
  g_Barred : mg "Barred" = some (.ref (A.e 14))
  g_NotKept : mg "NotKept" = some (.ref (A.e 15))
  g_NoRule : mg "NoRule" = some (.ref (A.e 16))
  g_TooEarly : mg "TooEarly" = some (.ref (A.e 17))
  g_TooFar : mg "TooFar" = some (.ref (A.e 18))
  g_BadGaps : mg "BadGaps" = some (.ref (A.e 19))
  g_EmptyRow : mg "EmptyRow" = some (.ref (A.e 20))
  g_NothingBack : mg "NothingBack" = some (.ref (A.e 21))
  g_BadLine : mg "BadLine" = some (.ref (A.e 22))
  ex0_BadGaps : PySem.W.excIn K (A.e 19) [.type "ValueError", .type "Exception", .type "BaseException", .type "object"] "ValueError.__new__" = true
  kp_BadGaps : PySem.W.keepIn K (.ref (A.e 19)) = true
  ex0_EmptyRow : PySem.W.excIn K (A.e 20) [.type "ValueError", .type "Exception", .type "BaseException", .type "object"] "ValueError.__new__" = true
  kp_EmptyRow : PySem.W.keepIn K (.ref (A.e 20)) = true
  ex0_NothingBack : PySem.W.excIn K (A.e 21) [.type "ValueError", .type "Exception", .type "BaseException", .type "object"] "ValueError.__new__" = true
  kp_NothingBack : PySem.W.keepIn K (.ref (A.e 21)) = true
  g_LookError : mg "LookError" = some (.ref A.L)
  ex : ∀ c, c < 23 → L2.ExcC K (A.e c)
  kit : ∀ c j, c < 23 → j < 23 → PySem.W.kitOne K (.ref (A.e c)) (.ref (A.e j)) = some (decide (c = j))
  kitL : ∀ c, c < 23 → PySem.W.kitOne K (.ref (A.e c)) (.ref A.L) = some true
  kitV : ∀ c, c < 23 → PySem.W.kitOne K (.ref (A.e c)) (.type "ValueError") = some true
section
variable {P : Program} {w : World} {K : PySem.W.Frag} {mg : Str → Option Value} {base : Heap} {A : Ad}
theorem Tx.k__law_cell (T : Tx K mg A) : PySem.W.keepIn K (.ref A.f__law_cell) = true := T.F__law_cell.kp
theorem Tx.b__law_cell (T : Tx K mg A) : Binds K A.d__law_cell ps__law_cell [] := T.F__law_cell.binds fun _ _ _ _ _ _ us hl => match us, hl with | [_, _], _ => rfl
theorem Tx.k__law_thing (T : Tx K mg A) : PySem.W.keepIn K (.ref A.f__law_thing) = true := T.F__law_thing.kp
theorem Tx.b__law_thing (T : Tx K mg A) : Binds K A.d__law_thing ps__law_thing [] := T.F__law_thing.binds fun _ _ _ _ _ _ us hl => match us, hl with | [_], _ => rfl
theorem Tx.k__law_marks (T : Tx K mg A) : PySem.W.keepIn K (.ref A.f__law_marks) = true := T.F__law_marks.kp
theorem Tx.b__law_marks (T : Tx K mg A) : Binds K A.d__law_marks ps__law_marks [] := T.F__law_marks.binds fun _ _ _ _ _ _ us hl => match us, hl with | [_], _ => rfl
theorem Tx.k__law_alone (T : Tx K mg A) : PySem.W.keepIn K (.ref A.f__law_alone) = true := T.F__law_alone.kp
theorem Tx.b__law_alone (T : Tx K mg A) : Binds K A.d__law_alone ps__law_alone [] := T.F__law_alone.binds fun _ _ _ _ _ _ us hl => match us, hl with | [_, _], _ => rfl
theorem Tx.k__law_single (T : Tx K mg A) : PySem.W.keepIn K (.ref A.f__law_single) = true := T.F__law_single.kp
theorem Tx.b__law_single (T : Tx K mg A) : Binds K A.d__law_single ps__law_single [] := T.F__law_single.binds fun _ _ _ _ _ _ us hl => match us, hl with | [_, _], _ => rfl
theorem Tx.k__law_pairs (T : Tx K mg A) : PySem.W.keepIn K (.ref A.f__law_pairs) = true := T.F__law_pairs.kp
theorem Tx.b__law_pairs (T : Tx K mg A) : Binds K A.d__law_pairs ps__law_pairs [] := T.F__law_pairs.binds fun _ _ _ _ _ _ us hl => match us, hl with | [_, _], _ => rfl
theorem Tx.k_law (T : Tx K mg A) : PySem.W.keepIn K (.ref A.f_law) = true := T.F_law.kp
theorem Tx.b_law (T : Tx K mg A) : Binds K A.d_law ps_law [] := T.F_law.binds fun _ _ _ _ _ _ us hl => match us, hl with | [_], _ => rfl
theorem Tx.b_BadName___init__ (T : Tx K mg A) : Binds K A.d_BadName___init__ ps_BadName___init__ [] := T.F_BadName___init__.binds fun _ _ _ _ _ _ us hl => match us, hl with | [_, _], _ => rfl
theorem ok_BadName___init__ (T : Tx K mg A) : FnOk P w K mg base CX0 1 A.f_BadName___init__ A.d_BadName___init__ ps_BadName___init__ (spI1 (A.e 0) "name") := by
  refine T.F_BadName___init__.ok sc_BadName___init__ (fun vs H Q E h => ?_) (fun cdv Ar outer s H vs Q E hr h => ?_)
  · obtain ⟨a, v, rfl, _⟩ := h; rfl
  · obtain ⟨a, v, rfl, hA, q⟩ := h
    refine ⟨_, pss_one (ps_ost (pv 0) (pv 1)), ?_⟩
    exact ⟨_, rfl, _, rfl, read1 T.oex_BadName T.nf_BadName_name hA q []⟩
theorem Tx.b_NameTaken___init__ (T : Tx K mg A) : Binds K A.d_NameTaken___init__ ps_NameTaken___init__ [] := T.F_NameTaken___init__.binds fun _ _ _ _ _ _ us hl => match us, hl with | [_, _], _ => rfl
theorem ok_NameTaken___init__ (T : Tx K mg A) : FnOk P w K mg base CX0 1 A.f_NameTaken___init__ A.d_NameTaken___init__ ps_NameTaken___init__ (spI1 (A.e 1) "name") := by
  refine T.F_NameTaken___init__.ok sc_NameTaken___init__ (fun vs H Q E h => ?_) (fun cdv Ar outer s H vs Q E hr h => ?_)
  · obtain ⟨a, v, rfl, _⟩ := h; rfl
  · obtain ⟨a, v, rfl, hA, q⟩ := h
    refine ⟨_, pss_one (ps_ost (pv 0) (pv 1)), ?_⟩
    exact ⟨_, rfl, _, rfl, read1 T.oex_NameTaken T.nf_NameTaken_name hA q []⟩
theorem Tx.b_NoStep___init__ (T : Tx K mg A) : Binds K A.d_NoStep___init__ ps_NoStep___init__ [] := T.F_NoStep___init__.binds fun _ _ _ _ _ _ us hl => match us, hl with | [_, _], _ => rfl
theorem ok_NoStep___init__ (T : Tx K mg A) : FnOk P w K mg base CX0 1 A.f_NoStep___init__ A.d_NoStep___init__ ps_NoStep___init__ (spI1 (A.e 2) "name") := by
  refine T.F_NoStep___init__.ok sc_NoStep___init__ (fun vs H Q E h => ?_) (fun cdv Ar outer s H vs Q E hr h => ?_)
  · obtain ⟨a, v, rfl, _⟩ := h; rfl
  · obtain ⟨a, v, rfl, hA, q⟩ := h
    refine ⟨_, pss_one (ps_ost (pv 0) (pv 1)), ?_⟩
    exact ⟨_, rfl, _, rfl, read1 T.oex_NoStep T.nf_NoStep_name hA q []⟩
theorem Tx.b_NoFile___init__ (T : Tx K mg A) : Binds K A.d_NoFile___init__ ps_NoFile___init__ [] := T.F_NoFile___init__.binds fun _ _ _ _ _ _ us hl => match us, hl with | [_, _], _ => rfl
theorem ok_NoFile___init__ (T : Tx K mg A) : FnOk P w K mg base CX0 1 A.f_NoFile___init__ A.d_NoFile___init__ ps_NoFile___init__ (spI1 (A.e 3) "name") := by
  refine T.F_NoFile___init__.ok sc_NoFile___init__ (fun vs H Q E h => ?_) (fun cdv Ar outer s H vs Q E hr h => ?_)
  · obtain ⟨a, v, rfl, _⟩ := h; rfl
  · obtain ⟨a, v, rfl, hA, q⟩ := h
    refine ⟨_, pss_one (ps_ost (pv 0) (pv 1)), ?_⟩
    exact ⟨_, rfl, _, rfl, read1 T.oex_NoFile T.nf_NoFile_name hA q []⟩
theorem Tx.b_NoReader___init__ (T : Tx K mg A) : Binds K A.d_NoReader___init__ ps_NoReader___init__ [] := T.F_NoReader___init__.binds fun _ _ _ _ _ _ us hl => match us, hl with | [_, _], _ => rfl
theorem ok_NoReader___init__ (T : Tx K mg A) : FnOk P w K mg base CX0 1 A.f_NoReader___init__ A.d_NoReader___init__ ps_NoReader___init__ (spI1 (A.e 4) "name") := by
  refine T.F_NoReader___init__.ok sc_NoReader___init__ (fun vs H Q E h => ?_) (fun cdv Ar outer s H vs Q E hr h => ?_)
  · obtain ⟨a, v, rfl, _⟩ := h; rfl
  · obtain ⟨a, v, rfl, hA, q⟩ := h
    refine ⟨_, pss_one (ps_ost (pv 0) (pv 1)), ?_⟩
    exact ⟨_, rfl, _, rfl, read1 T.oex_NoReader T.nf_NoReader_name hA q []⟩
theorem Tx.b_NoRow___init__ (T : Tx K mg A) : Binds K A.d_NoRow___init__ ps_NoRow___init__ [] := T.F_NoRow___init__.binds fun _ _ _ _ _ _ us hl => match us, hl with | [_, _], _ => rfl
theorem ok_NoRow___init__ (T : Tx K mg A) : FnOk P w K mg base CX0 1 A.f_NoRow___init__ A.d_NoRow___init__ ps_NoRow___init__ (spI1 (A.e 5) "name") := by
  refine T.F_NoRow___init__.ok sc_NoRow___init__ (fun vs H Q E h => ?_) (fun cdv Ar outer s H vs Q E hr h => ?_)
  · obtain ⟨a, v, rfl, _⟩ := h; rfl
  · obtain ⟨a, v, rfl, hA, q⟩ := h
    refine ⟨_, pss_one (ps_ost (pv 0) (pv 1)), ?_⟩
    exact ⟨_, rfl, _, rfl, read1 T.oex_NoRow T.nf_NoRow_name hA q []⟩
theorem Tx.b_Clash___init__ (T : Tx K mg A) : Binds K A.d_Clash___init__ ps_Clash___init__ [] := T.F_Clash___init__.binds fun _ _ _ _ _ _ us hl => match us, hl with | [_, _], _ => rfl
theorem ok_Clash___init__ (T : Tx K mg A) : FnOk P w K mg base CX0 1 A.f_Clash___init__ A.d_Clash___init__ ps_Clash___init__ (spI1 (A.e 6) "name") := by
  refine T.F_Clash___init__.ok sc_Clash___init__ (fun vs H Q E h => ?_) (fun cdv Ar outer s H vs Q E hr h => ?_)
  · obtain ⟨a, v, rfl, _⟩ := h; rfl
  · obtain ⟨a, v, rfl, hA, q⟩ := h
    refine ⟨_, pss_one (ps_ost (pv 0) (pv 1)), ?_⟩
    exact ⟨_, rfl, _, rfl, read1 T.oex_Clash T.nf_Clash_name hA q []⟩
theorem Tx.b_SameStep___init__ (T : Tx K mg A) : Binds K A.d_SameStep___init__ ps_SameStep___init__ [] := T.F_SameStep___init__.binds fun _ _ _ _ _ _ us hl => match us, hl with | [_, _], _ => rfl
theorem ok_SameStep___init__ (T : Tx K mg A) : FnOk P w K mg base CX0 1 A.f_SameStep___init__ A.d_SameStep___init__ ps_SameStep___init__ (spI1 (A.e 7) "name") := by
  refine T.F_SameStep___init__.ok sc_SameStep___init__ (fun vs H Q E h => ?_) (fun cdv Ar outer s H vs Q E hr h => ?_)
  · obtain ⟨a, v, rfl, _⟩ := h; rfl
  · obtain ⟨a, v, rfl, hA, q⟩ := h
    refine ⟨_, pss_one (ps_ost (pv 0) (pv 1)), ?_⟩
    exact ⟨_, rfl, _, rfl, read1 T.oex_SameStep T.nf_SameStep_name hA q []⟩
theorem Tx.b_SameFile___init__ (T : Tx K mg A) : Binds K A.d_SameFile___init__ ps_SameFile___init__ [] := T.F_SameFile___init__.binds fun _ _ _ _ _ _ us hl => match us, hl with | [_, _], _ => rfl
theorem ok_SameFile___init__ (T : Tx K mg A) : FnOk P w K mg base CX0 1 A.f_SameFile___init__ A.d_SameFile___init__ ps_SameFile___init__ (spI1 (A.e 8) "name") := by
  refine T.F_SameFile___init__.ok sc_SameFile___init__ (fun vs H Q E h => ?_) (fun cdv Ar outer s H vs Q E hr h => ?_)
  · obtain ⟨a, v, rfl, _⟩ := h; rfl
  · obtain ⟨a, v, rfl, hA, q⟩ := h
    refine ⟨_, pss_one (ps_ost (pv 0) (pv 1)), ?_⟩
    exact ⟨_, rfl, _, rfl, read1 T.oex_SameFile T.nf_SameFile_name hA q []⟩
theorem Tx.b_BadNumber___init__ (T : Tx K mg A) : Binds K A.d_BadNumber___init__ ps_BadNumber___init__ [] := T.F_BadNumber___init__.binds fun _ _ _ _ _ _ us hl => match us, hl with | [_, _], _ => rfl
theorem ok_BadNumber___init__ (T : Tx K mg A) : FnOk P w K mg base CX0 1 A.f_BadNumber___init__ A.d_BadNumber___init__ ps_BadNumber___init__ (spI1 (A.e 9) "value") := by
  refine T.F_BadNumber___init__.ok sc_BadNumber___init__ (fun vs H Q E h => ?_) (fun cdv Ar outer s H vs Q E hr h => ?_)
  · obtain ⟨a, v, rfl, _⟩ := h; rfl
  · obtain ⟨a, v, rfl, hA, q⟩ := h
    refine ⟨_, pss_one (ps_ost (pv 0) (pv 1)), ?_⟩
    exact ⟨_, rfl, _, rfl, read1 T.oex_BadNumber T.nf_BadNumber_value hA q []⟩
theorem Tx.b_ZeroRing___init__ (T : Tx K mg A) : Binds K A.d_ZeroRing___init__ ps_ZeroRing___init__ [] := T.F_ZeroRing___init__.binds fun _ _ _ _ _ _ us hl => match us, hl with | [_, _], _ => rfl
theorem ok_ZeroRing___init__ (T : Tx K mg A) : FnOk P w K mg base CX0 1 A.f_ZeroRing___init__ A.d_ZeroRing___init__ ps_ZeroRing___init__ (spI1 (A.e 10) "members") := by
  refine T.F_ZeroRing___init__.ok sc_ZeroRing___init__ (fun vs H Q E h => ?_) (fun cdv Ar outer s H vs Q E hr h => ?_)
  · obtain ⟨a, v, rfl, _⟩ := h; rfl
  · obtain ⟨a, v, rfl, hA, q⟩ := h
    refine ⟨_, pss_one (ps_ost (pv 0) (pv 1)), ?_⟩
    exact ⟨_, rfl, _, rfl, read1 T.oex_ZeroRing T.nf_ZeroRing_members hA q []⟩
theorem Tx.b_BadItem___init__ (T : Tx K mg A) : Binds K A.d_BadItem___init__ ps_BadItem___init__ [] := T.F_BadItem___init__.binds fun _ _ _ _ _ _ us hl => match us, hl with | [_, _], _ => rfl
theorem ok_BadItem___init__ (T : Tx K mg A) : FnOk P w K mg base CX0 1 A.f_BadItem___init__ A.d_BadItem___init__ ps_BadItem___init__ (spI1 (A.e 11) "place") := by
  refine T.F_BadItem___init__.ok sc_BadItem___init__ (fun vs H Q E h => ?_) (fun cdv Ar outer s H vs Q E hr h => ?_)
  · obtain ⟨a, v, rfl, _⟩ := h; rfl
  · obtain ⟨a, v, rfl, hA, q⟩ := h
    refine ⟨_, pss_one (ps_ost (pv 0) (pv 1)), ?_⟩
    exact ⟨_, rfl, _, rfl, read1 T.oex_BadItem T.nf_BadItem_place hA q []⟩
theorem Tx.b_NotYet___init__ (T : Tx K mg A) : Binds K A.d_NotYet___init__ ps_NotYet___init__ [] := T.F_NotYet___init__.binds fun _ _ _ _ _ _ us hl => match us, hl with | [_, _, _], _ => rfl
theorem ok_NotYet___init__ (T : Tx K mg A) : FnOk P w K mg base CX0 1 A.f_NotYet___init__ A.d_NotYet___init__ ps_NotYet___init__ (spI2 (A.e 12) "place" "step") := by
  refine T.F_NotYet___init__.ok sc_NotYet___init__ (fun vs H Q E h => ?_) (fun cdv Ar outer s H vs Q E hr h => ?_)
  · obtain ⟨a, v, u, rfl, _⟩ := h; rfl
  · obtain ⟨a, v, u, rfl, hA, q⟩ := h
    refine ⟨_, pss_cons (ps_ost (pv 0) (pv 1)) (pss_one (ps_ost (pv 0) (pv 2))), ?_⟩
    refine ⟨_, rfl, _, rfl, a, _, rfl, T.oex_NotYet, T.nf_NotYet_place, .inl ⟨hA, fun dx hn ne => ?_⟩⟩
    refine ⟨_, rfl, _, rfl, a, _, rfl, T.oex_NotYet, T.nf_NotYet_step, .inr ⟨dx, _, upd_same, (upd_ne ne).trans upd_same, (by show 1 ≤ 900; decide), ?_⟩⟩
    exact q dx _ ((upd_ne ne.symm).trans upd_same) upd_same ((((Kp.refl [a] H).new hn).put (.inl (List.mem_singleton.mpr rfl))).put (.inr hn)) hn
theorem Tx.b_NoSet___init__ (T : Tx K mg A) : Binds K A.d_NoSet___init__ ps_NoSet___init__ [] := T.F_NoSet___init__.binds fun _ _ _ _ _ _ us hl => match us, hl with | [_, _], _ => rfl
theorem ok_NoSet___init__ (T : Tx K mg A) : FnOk P w K mg base CX0 1 A.f_NoSet___init__ A.d_NoSet___init__ ps_NoSet___init__ (spI1 (A.e 13) "members") := by
  refine T.F_NoSet___init__.ok sc_NoSet___init__ (fun vs H Q E h => ?_) (fun cdv Ar outer s H vs Q E hr h => ?_)
  · obtain ⟨a, v, rfl, _⟩ := h; rfl
  · obtain ⟨a, v, rfl, hA, q⟩ := h
    refine ⟨_, pss_one (ps_ost (pv 0) (pv 1)), ?_⟩
    exact ⟨_, rfl, _, rfl, read1 T.oex_NoSet T.nf_NoSet_members hA q []⟩
theorem Tx.b_Barred___init__ (T : Tx K mg A) : Binds K A.d_Barred___init__ ps_Barred___init__ [] := T.F_Barred___init__.binds fun _ _ _ _ _ _ us hl => match us, hl with | [_, _], _ => rfl
theorem ok_Barred___init__ (T : Tx K mg A) : FnOk P w K mg base CX0 1 A.f_Barred___init__ A.d_Barred___init__ ps_Barred___init__ (spI1 (A.e 14) "pieces") := by
  refine T.F_Barred___init__.ok sc_Barred___init__ (fun vs H Q E h => ?_) (fun cdv Ar outer s H vs Q E hr h => ?_)
  · obtain ⟨a, v, rfl, _⟩ := h; rfl
  · obtain ⟨a, v, rfl, hA, q⟩ := h
    refine ⟨_, pss_one (ps_ost (pv 0) (pv 1)), ?_⟩
    exact ⟨_, rfl, _, rfl, read1 T.oex_Barred T.nf_Barred_pieces hA q []⟩
theorem Tx.b_NotKept___init__ (T : Tx K mg A) : Binds K A.d_NotKept___init__ ps_NotKept___init__ [] := T.F_NotKept___init__.binds fun _ _ _ _ _ _ us hl => match us, hl with | [_, _, _], _ => rfl
theorem ok_NotKept___init__ (T : Tx K mg A) : FnOk P w K mg base CX0 1 A.f_NotKept___init__ A.d_NotKept___init__ ps_NotKept___init__ (spI2 (A.e 15) "first" "second") := by
  refine T.F_NotKept___init__.ok sc_NotKept___init__ (fun vs H Q E h => ?_) (fun cdv Ar outer s H vs Q E hr h => ?_)
  · obtain ⟨a, v, u, rfl, _⟩ := h; rfl
  · obtain ⟨a, v, u, rfl, hA, q⟩ := h
    refine ⟨_, pss_cons (ps_ost (pv 0) (pv 1)) (pss_one (ps_ost (pv 0) (pv 2))), ?_⟩
    refine ⟨_, rfl, _, rfl, a, _, rfl, T.oex_NotKept, T.nf_NotKept_first, .inl ⟨hA, fun dx hn ne => ?_⟩⟩
    refine ⟨_, rfl, _, rfl, a, _, rfl, T.oex_NotKept, T.nf_NotKept_second, .inr ⟨dx, _, upd_same, (upd_ne ne).trans upd_same, (by show 1 ≤ 900; decide), ?_⟩⟩
    exact q dx _ ((upd_ne ne.symm).trans upd_same) upd_same ((((Kp.refl [a] H).new hn).put (.inl (List.mem_singleton.mpr rfl))).put (.inr hn)) hn
theorem Tx.b_NoRule___init__ (T : Tx K mg A) : Binds K A.d_NoRule___init__ ps_NoRule___init__ [] := T.F_NoRule___init__.binds fun _ _ _ _ _ _ us hl => match us, hl with | [_, _, _], _ => rfl
theorem ok_NoRule___init__ (T : Tx K mg A) : FnOk P w K mg base CX0 1 A.f_NoRule___init__ A.d_NoRule___init__ ps_NoRule___init__ (spI2 (A.e 16) "first" "second") := by
  refine T.F_NoRule___init__.ok sc_NoRule___init__ (fun vs H Q E h => ?_) (fun cdv Ar outer s H vs Q E hr h => ?_)
  · obtain ⟨a, v, u, rfl, _⟩ := h; rfl
  · obtain ⟨a, v, u, rfl, hA, q⟩ := h
    refine ⟨_, pss_cons (ps_ost (pv 0) (pv 1)) (pss_one (ps_ost (pv 0) (pv 2))), ?_⟩
    refine ⟨_, rfl, _, rfl, a, _, rfl, T.oex_NoRule, T.nf_NoRule_first, .inl ⟨hA, fun dx hn ne => ?_⟩⟩
    refine ⟨_, rfl, _, rfl, a, _, rfl, T.oex_NoRule, T.nf_NoRule_second, .inr ⟨dx, _, upd_same, (upd_ne ne).trans upd_same, (by show 1 ≤ 900; decide), ?_⟩⟩
    exact q dx _ ((upd_ne ne.symm).trans upd_same) upd_same ((((Kp.refl [a] H).new hn).put (.inl (List.mem_singleton.mpr rfl))).put (.inr hn)) hn
theorem Tx.b_TooEarly___init__ (T : Tx K mg A) : Binds K A.d_TooEarly___init__ ps_TooEarly___init__ [] := T.F_TooEarly___init__.binds fun _ _ _ _ _ _ us hl => match us, hl with | [_, _], _ => rfl
theorem ok_TooEarly___init__ (T : Tx K mg A) : FnOk P w K mg base CX0 1 A.f_TooEarly___init__ A.d_TooEarly___init__ ps_TooEarly___init__ (spI1 (A.e 17) "place") := by
  refine T.F_TooEarly___init__.ok sc_TooEarly___init__ (fun vs H Q E h => ?_) (fun cdv Ar outer s H vs Q E hr h => ?_)
  · obtain ⟨a, v, rfl, _⟩ := h; rfl
  · obtain ⟨a, v, rfl, hA, q⟩ := h
    refine ⟨_, pss_one (ps_ost (pv 0) (pv 1)), ?_⟩
    exact ⟨_, rfl, _, rfl, read1 T.oex_TooEarly T.nf_TooEarly_place hA q []⟩
theorem Tx.b_TooFar___init__ (T : Tx K mg A) : Binds K A.d_TooFar___init__ ps_TooFar___init__ [] := T.F_TooFar___init__.binds fun _ _ _ _ _ _ us hl => match us, hl with | [_, _, _], _ => rfl
theorem ok_TooFar___init__ (T : Tx K mg A) : FnOk P w K mg base CX0 1 A.f_TooFar___init__ A.d_TooFar___init__ ps_TooFar___init__ (spI2 (A.e 18) "first" "second") := by
  refine T.F_TooFar___init__.ok sc_TooFar___init__ (fun vs H Q E h => ?_) (fun cdv Ar outer s H vs Q E hr h => ?_)
  · obtain ⟨a, v, u, rfl, _⟩ := h; rfl
  · obtain ⟨a, v, u, rfl, hA, q⟩ := h
    refine ⟨_, pss_cons (ps_ost (pv 0) (pv 1)) (pss_one (ps_ost (pv 0) (pv 2))), ?_⟩
    refine ⟨_, rfl, _, rfl, a, _, rfl, T.oex_TooFar, T.nf_TooFar_first, .inl ⟨hA, fun dx hn ne => ?_⟩⟩
    refine ⟨_, rfl, _, rfl, a, _, rfl, T.oex_TooFar, T.nf_TooFar_second, .inr ⟨dx, _, upd_same, (upd_ne ne).trans upd_same, (by show 1 ≤ 900; decide), ?_⟩⟩
    exact q dx _ ((upd_ne ne.symm).trans upd_same) upd_same ((((Kp.refl [a] H).new hn).put (.inl (List.mem_singleton.mpr rfl))).put (.inr hn)) hn
theorem Tx.b_BadLine___init__ (T : Tx K mg A) : Binds K A.d_BadLine___init__ ps_BadLine___init__ [] := T.F_BadLine___init__.binds fun _ _ _ _ _ _ us hl => match us, hl with | [_, _], _ => rfl
theorem ok_BadLine___init__ (T : Tx K mg A) : FnOk P w K mg base CX0 1 A.f_BadLine___init__ A.d_BadLine___init__ ps_BadLine___init__ (spI1 (A.e 22) "line") := by
  refine T.F_BadLine___init__.ok sc_BadLine___init__ (fun vs H Q E h => ?_) (fun cdv Ar outer s H vs Q E hr h => ?_)
  · obtain ⟨a, v, rfl, _⟩ := h; rfl
  · obtain ⟨a, v, rfl, hA, q⟩ := h
    refine ⟨_, pss_one (ps_ost (pv 0) (pv 1)), ?_⟩
    exact ⟨_, rfl, _, rfl, read1 T.oex_BadLine T.nf_BadLine_line hA q []⟩
theorem ok__law_cell (T : Tx K mg A) : FnOk P w K mg base CX0 1 A.f__law_cell A.d__law_cell ps__law_cell (sp__law_cell K A) := by
  refine T.F__law_cell.ok sc__law_cell (fun vs H Q E h => ?_) (fun cdv Ar outer s H vs Q E hr h => ?_)
  · obtain ⟨_, _, _, rfl, _⟩ := h
    rfl
  · obtain ⟨a, ns, j, rfl, g1, g2, q⟩ := h
    refine ⟨_, (pss_cons (ps_if (pt_cmpR op_lt (pv 1) (pe_callB (r := rLenK K) call_lenK (by rfl) T.n_len PySem.boot_len (pa_cons (pv 0) pa_nil)) (nomark _))
  (pss_one (ps_ret (pe_ix (r := rIxL K) ix_list (pv 0) (pv 1) (fun _ _ => rfl))))
  pss_nil)
  (pss_one (ps_ret pe_int))), ?_⟩
    refine ⟨_, rfl, _, rfl, _, _, ((ns).length : Int), rfl, .inl g1, (by simp), _, _, rfl, rfl, _, rfl, ite2 (fun hc3 => ?_) (fun hc3 => ?_)⟩
    · have hc3 : j < ((ns).length : Int) := by simpa using hc3
      refine ⟨_, rfl, _, rfl, ?_⟩
      obtain ⟨x4, hx5, hy6⟩ := atI_map (f := V.int) (xs := ns) (i := j) (by first | omega | assumption | decide | (simp; done) | (simp; omega)) (by first | omega | assumption | decide | (simp; done) | (simp; omega))
      refine ⟨_, _, _, _, rfl, rfl, g1, hy6, ?_⟩
      exact q x4
    · have hc3 : ¬ (j < ((ns).length : Int)) := by simpa using hc3
      exact q 0
theorem ok__law_thing (T : Tx K mg A) : FnOk P w K mg base CX0 1 A.f__law_thing A.d__law_thing ps__law_thing (sp__law_thing K A) := by
  refine T.F__law_thing.ok sc__law_thing (fun vs H Q E h => ?_) (fun cdv Ar outer s H vs Q E hr h => ?_)
  · obtain ⟨_, rfl, _⟩ := h
    rfl
  · obtain ⟨x, rfl, q⟩ := h
    refine ⟨_, (pss_cons (ps_set (i := 1) sc__law_thing.nd rfl (Or.inl rfl) (pe_op op_mod (pe_callTy call_intK (by rfl) T.n_int (by decide +kernel) (pa_cons (pv 0) pa_nil)) pe_int))
  (pss_cons (ps_set (i := 2) sc__law_thing.nd rfl (Or.inl rfl) (pe_op op_mod (pe_callTy call_intK (by rfl) T.n_int (by decide +kernel) (pa_cons (pe_op op_fdiv (pv 0) pe_int) pa_nil)) (pe_op op_pow pe_int pe_int)))
  (pss_one (ps_ret (pe_ix (r := rIxL K) ix_list (pe_lstK (pa_cons (pv 2) (pa_cons (pe_op op_add_str pe_str (pe_callTy call_str_int (by rfl) T.n_str (by decide +kernel) (pa_cons (pe_op op_mod (pe_callTy call_intK (by rfl) T.n_int (by decide +kernel) (pa_cons (pv 2) pa_nil)) (pe_op op_pow pe_int pe_int)) pa_nil))) (pa_cons (pe_tupK (pa_cons (pv 2) (pa_cons pe_str pa_nil))) (pa_cons pe_non (pa_cons (pe_lstK (pa_cons (pv 2) pa_nil)) (pa_cons (pe_op op_sub pe_int (pv 2)) pa_nil))))))) (pv 1) (fun _ _ => rfl)))))), ?_⟩
    refine ⟨_, rfl, _, rfl, _, _, rfl, rfl, (by show (0 : Int) < 6; first | decide | omega), _, rfl, _, _, rfl, rfl, ⟨by omega, by omega⟩, _, rfl, _, _, rfl, rfl, ⟨by first | decide | omega, by first | decide | omega, by first | decide | omega⟩, _, _, rfl, rfl, p59, ?_⟩
    have em1 := Int.emod_nonneg (x / 6) (Int.ne_of_gt p59)
    refine ⟨_, rfl, _, rfl, _, rfl, _, _, rfl, rfl, ⟨by first | decide | omega, by first | decide | omega, by first | decide | omega⟩, _, _, rfl, rfl, p9, ?_⟩
    have em2 := Int.emod_nonneg ((x / 6) % (10 ^ Int.toNat 59)) (Int.ne_of_gt p9)
    have em3 := Int.emod_lt_of_pos ((x / 6) % (10 ^ Int.toNat 59)) p9; have em4 := e9
    have tl5 := text_len (i := (((x / 6) % (10 ^ Int.toNat 59)) % (10 ^ Int.toNat 9))) (by omega) (by omega)
    refine ⟨_, rfl, lg_ok (by omega) (by omega), ?_⟩
    have nl6 : Str.length ("n" : Str) = 1 := by decide +kernel
    refine ⟨_, _, rfl, rfl, (by show Str.length ("n" : Str) + Str.length (Str.ofString (toString (((x / 6) % (10 ^ Int.toNat 59)) % (10 ^ Int.toNat 9)))) ≤ sizeLine; exact slen (by omega)), _, rfl, (by show 2 ≤ sizeLine; decide), fun p7 H8 hn9 hp10 hk11 => ?_⟩
    refine ⟨_, rfl, (by show 1 ≤ sizeLine; decide), fun p12 H13 hn14 hp15 hk16 => ?_⟩
    refine ⟨_, rfl, _, _, rfl, rfl, (by show 6 ≤ sizeLine; decide), fun p17 H18 hn19 hp20 hk21 => ?_⟩
    refine ⟨_, rfl, ?_⟩
    obtain ⟨x22, hx23, hy24⟩ := atI_list (xs := ([V.int (((x / 6) % (10 ^ Int.toNat 59))), V.str ((("n" : Str) ++ (Str.ofString (toString (((x / 6) % (10 ^ Int.toNat 59)) % (10 ^ Int.toNat 9)))))), V.ref p7, V.non, V.ref p12, V.int ((0 - ((x / 6) % (10 ^ Int.toNat 59))))] : List V)) (i := (x % 6)) (by omega) (by show (x % 6) < (6 : Int); omega)
    have f27 : H18 p12 = some (.lst [V.int (((x / 6) % (10 ^ Int.toNat 59)))]) := hk21.at0 hp15 
    have k28 : Kp [] H8 H18 := hk16.step0 hk21
    have f29 : H18 p7 = some (.tup [V.int (((x / 6) % (10 ^ Int.toNat 59))), V.str (("a" : Str))]) := k28.at0 hp10 
    obtain ⟨d25, hd26⟩ := dat_mem (K := K) (H := H18) (forall_cons' ⟨_, dat_int _⟩ (forall_cons' ⟨_, dat_str (ok_app (ok_text _) (ok_text _))⟩ (forall_cons' ⟨_, dat_t2 (ok_text _) f29⟩ (forall_cons' ⟨_, dat_non⟩ (forall_cons' ⟨_, dat_l1 f27⟩ (forall_cons' ⟨_, dat_int _⟩ forall_nil)))))) hx23
    refine ⟨_, _, _, _, rfl, rfl, (.inl (.inl hp20)), hy24, ?_⟩
    have k30 : Kp [] H H13 := hk11.step0 hk16
    have k31 : Kp [] H H18 := k30.step0 hk21
    exact q x22 d25 H18 k31 hd26
theorem ok__law_marks (T : Tx K mg A) : FnOk P w K mg base CX0 1 A.f__law_marks A.d__law_marks ps__law_marks (sp__law_marks K A) := by
  refine T.F__law_marks.ok sc__law_marks (fun vs H Q E h => ?_) (fun cdv Ar outer s H vs Q E hr h => ?_)
  · obtain ⟨_, _, rfl, _⟩ := h
    rfl
  · obtain ⟨a, c, rfl, g1, g2, q⟩ := h
    refine ⟨_, (pss_cons (ps_set (i := 1) sc__law_marks.nd rfl (Or.inl rfl) (pe_lstK (pa_cons (pe_callB (r := rIsX K) call_isX (by rfl) T.n_isinstance (by decide +kernel) (pa_cons (pv 0) (pa_cons (pe_glob (v := .ref (A.e 0)) rfl T.g_BadName rfl) pa_nil))) (pa_cons (pe_callB (r := rIsX K) call_isX (by rfl) T.n_isinstance (by decide +kernel) (pa_cons (pv 0) (pa_cons (pe_glob (v := .ref (A.e 1)) rfl T.g_NameTaken rfl) pa_nil))) (pa_cons (pe_callB (r := rIsX K) call_isX (by rfl) T.n_isinstance (by decide +kernel) (pa_cons (pv 0) (pa_cons (pe_glob (v := .ref (A.e 2)) rfl T.g_NoStep rfl) pa_nil))) pa_nil)))))
  (pss_cons (ps_set (i := 1) sc__law_marks.nd rfl (Or.inl rfl) (pe_op op_catK (pv 1) (pe_lstK (pa_cons (pe_callB (r := rIsX K) call_isX (by rfl) T.n_isinstance (by decide +kernel) (pa_cons (pv 0) (pa_cons (pe_glob (v := .ref (A.e 3)) rfl T.g_NoFile rfl) pa_nil))) (pa_cons (pe_callB (r := rIsX K) call_isX (by rfl) T.n_isinstance (by decide +kernel) (pa_cons (pv 0) (pa_cons (pe_glob (v := .ref (A.e 4)) rfl T.g_NoReader rfl) pa_nil))) (pa_cons (pe_callB (r := rIsX K) call_isX (by rfl) T.n_isinstance (by decide +kernel) (pa_cons (pv 0) (pa_cons (pe_glob (v := .ref (A.e 5)) rfl T.g_NoRow rfl) pa_nil))) pa_nil))))))
  (pss_cons (ps_set (i := 1) sc__law_marks.nd rfl (Or.inl rfl) (pe_op op_catK (pv 1) (pe_lstK (pa_cons (pe_callB (r := rIsX K) call_isX (by rfl) T.n_isinstance (by decide +kernel) (pa_cons (pv 0) (pa_cons (pe_glob (v := .ref (A.e 6)) rfl T.g_Clash rfl) pa_nil))) (pa_cons (pe_callB (r := rIsX K) call_isX (by rfl) T.n_isinstance (by decide +kernel) (pa_cons (pv 0) (pa_cons (pe_glob (v := .ref (A.e 7)) rfl T.g_SameStep rfl) pa_nil))) (pa_cons (pe_callB (r := rIsX K) call_isX (by rfl) T.n_isinstance (by decide +kernel) (pa_cons (pv 0) (pa_cons (pe_glob (v := .ref (A.e 8)) rfl T.g_SameFile rfl) pa_nil))) pa_nil))))))
  (pss_cons (ps_set (i := 1) sc__law_marks.nd rfl (Or.inl rfl) (pe_op op_catK (pv 1) (pe_lstK (pa_cons (pe_callB (r := rIsX K) call_isX (by rfl) T.n_isinstance (by decide +kernel) (pa_cons (pv 0) (pa_cons (pe_glob (v := .ref (A.e 9)) rfl T.g_BadNumber rfl) pa_nil))) (pa_cons (pe_callB (r := rIsX K) call_isX (by rfl) T.n_isinstance (by decide +kernel) (pa_cons (pv 0) (pa_cons (pe_glob (v := .ref (A.e 10)) rfl T.g_ZeroRing rfl) pa_nil))) (pa_cons (pe_callB (r := rIsX K) call_isX (by rfl) T.n_isinstance (by decide +kernel) (pa_cons (pv 0) (pa_cons (pe_glob (v := .ref (A.e 11)) rfl T.g_BadItem rfl) pa_nil))) pa_nil))))))
  (pss_cons (ps_set (i := 1) sc__law_marks.nd rfl (Or.inl rfl) (pe_op op_catK (pv 1) (pe_lstK (pa_cons (pe_callB (r := rIsX K) call_isX (by rfl) T.n_isinstance (by decide +kernel) (pa_cons (pv 0) (pa_cons (pe_glob (v := .ref (A.e 12)) rfl T.g_NotYet rfl) pa_nil))) (pa_cons (pe_callB (r := rIsX K) call_isX (by rfl) T.n_isinstance (by decide +kernel) (pa_cons (pv 0) (pa_cons (pe_glob (v := .ref (A.e 13)) rfl T.g_NoSet rfl) pa_nil))) (pa_cons (pe_callB (r := rIsX K) call_isX (by rfl) T.n_isinstance (by decide +kernel) (pa_cons (pv 0) (pa_cons (pe_glob (v := .ref (A.e 14)) rfl T.g_Barred rfl) pa_nil))) pa_nil))))))
  (pss_cons (ps_set (i := 1) sc__law_marks.nd rfl (Or.inl rfl) (pe_op op_catK (pv 1) (pe_lstK (pa_cons (pe_callB (r := rIsX K) call_isX (by rfl) T.n_isinstance (by decide +kernel) (pa_cons (pv 0) (pa_cons (pe_glob (v := .ref (A.e 15)) rfl T.g_NotKept rfl) pa_nil))) (pa_cons (pe_callB (r := rIsX K) call_isX (by rfl) T.n_isinstance (by decide +kernel) (pa_cons (pv 0) (pa_cons (pe_glob (v := .ref (A.e 16)) rfl T.g_NoRule rfl) pa_nil))) (pa_cons (pe_callB (r := rIsX K) call_isX (by rfl) T.n_isinstance (by decide +kernel) (pa_cons (pv 0) (pa_cons (pe_glob (v := .ref (A.e 17)) rfl T.g_TooEarly rfl) pa_nil))) pa_nil))))))
  (pss_cons (ps_set (i := 1) sc__law_marks.nd rfl (Or.inl rfl) (pe_op op_catK (pv 1) (pe_lstK (pa_cons (pe_callB (r := rIsX K) call_isX (by rfl) T.n_isinstance (by decide +kernel) (pa_cons (pv 0) (pa_cons (pe_glob (v := .ref (A.e 18)) rfl T.g_TooFar rfl) pa_nil))) (pa_cons (pe_callB (r := rIsX K) call_isX (by rfl) T.n_isinstance (by decide +kernel) (pa_cons (pv 0) (pa_cons (pe_glob (v := .ref (A.e 19)) rfl T.g_BadGaps rfl) pa_nil))) (pa_cons (pe_callB (r := rIsX K) call_isX (by rfl) T.n_isinstance (by decide +kernel) (pa_cons (pv 0) (pa_cons (pe_glob (v := .ref (A.e 20)) rfl T.g_EmptyRow rfl) pa_nil))) pa_nil))))))
  (pss_one (ps_ret (pe_op op_catK (pv 1) (pe_lstK (pa_cons (pe_callB (r := rIsX K) call_isX (by rfl) T.n_isinstance (by decide +kernel) (pa_cons (pv 0) (pa_cons (pe_glob (v := .ref (A.e 21)) rfl T.g_NothingBack rfl) pa_nil))) (pa_cons (pe_callB (r := rIsX K) call_isX (by rfl) T.n_isinstance (by decide +kernel) (pa_cons (pv 0) (pa_cons (pe_glob (v := .ref (A.e 22)) rfl T.g_BadLine rfl) pa_nil))) pa_nil))))))))))))), ?_⟩
    refine ⟨_, rfl, _, _, _, _, _, rfl, g1, T.ex c (by omega), .own _, T.kit c 0 (by omega) (by decide), _, rfl, _, _, _, _, _, rfl, g1, T.ex c (by omega), .own _, T.kit c 1 (by omega) (by decide), _, rfl, _, _, _, _, _, rfl, g1, T.ex c (by omega), .own _, T.kit c 2 (by omega) (by decide), (by show 3 ≤ sizeLine; decide), fun p3 H4 hn5 hp6 hk7 => ?_⟩
    have f8 : Exc H4 a (A.e c) := Exc.kp0 g1 hk7
    refine ⟨_, rfl, _, rfl, _, _, _, _, _, rfl, f8, T.ex c (by omega), .own _, T.kit c 3 (by omega) (by decide), _, rfl, _, _, _, _, _, rfl, f8, T.ex c (by omega), .own _, T.kit c 4 (by omega) (by decide), _, rfl, _, _, _, _, _, rfl, f8, T.ex c (by omega), .own _, T.kit c 5 (by omega) (by decide), (by show 3 ≤ sizeLine; decide), fun p9 H10 hn11 hp12 hk13 => ?_⟩
    have f14 : H10 p3 = some (.lst [V.bl (decide (c = 0)), V.bl (decide (c = 1)), V.bl (decide (c = 2))]) := hk13.at0 hp6 
    refine ⟨_, _, _, _, rfl, rfl, f14, hp12, (by show ([V.bl (decide (c = 0)), V.bl (decide (c = 1)), V.bl (decide (c = 2))]).length + ([V.bl (decide (c = 3)), V.bl (decide (c = 4)), V.bl (decide (c = 5))]).length ≤ sizeLine; refine slen ?_; first | (simp; done) | omega | (simp; omega) | (subst_vars; simp; omega)), fun p15 H16 hn17 hp18 hk19 => ?_⟩
    have hp20 : H16 p15 = some (.lst [V.bl (decide (c = 0)), V.bl (decide (c = 1)), V.bl (decide (c = 2)), V.bl (decide (c = 3)), V.bl (decide (c = 4)), V.bl (decide (c = 5))]) := hp18
    have k21 : Kp [] H4 H16 := hk13.step0 hk19
    have f22 : Exc H16 a (A.e c) := Exc.kp0 f8 k21
    refine ⟨_, rfl, _, rfl, _, _, _, _, _, rfl, f22, T.ex c (by omega), .own _, T.kit c 6 (by omega) (by decide), _, rfl, _, _, _, _, _, rfl, f22, T.ex c (by omega), .own _, T.kit c 7 (by omega) (by decide), _, rfl, _, _, _, _, _, rfl, f22, T.ex c (by omega), .own _, T.kit c 8 (by omega) (by decide), (by show 3 ≤ sizeLine; decide), fun p23 H24 hn25 hp26 hk27 => ?_⟩
    have f28 : H24 p15 = some (.lst [V.bl (decide (c = 0)), V.bl (decide (c = 1)), V.bl (decide (c = 2)), V.bl (decide (c = 3)), V.bl (decide (c = 4)), V.bl (decide (c = 5))]) := hk27.at0 hp20 
    refine ⟨_, _, _, _, rfl, rfl, f28, hp26, (by show ([V.bl (decide (c = 0)), V.bl (decide (c = 1)), V.bl (decide (c = 2)), V.bl (decide (c = 3)), V.bl (decide (c = 4)), V.bl (decide (c = 5))]).length + ([V.bl (decide (c = 6)), V.bl (decide (c = 7)), V.bl (decide (c = 8))]).length ≤ sizeLine; refine slen ?_; first | (simp; done) | omega | (simp; omega) | (subst_vars; simp; omega)), fun p29 H30 hn31 hp32 hk33 => ?_⟩
    have hp34 : H30 p29 = some (.lst [V.bl (decide (c = 0)), V.bl (decide (c = 1)), V.bl (decide (c = 2)), V.bl (decide (c = 3)), V.bl (decide (c = 4)), V.bl (decide (c = 5)), V.bl (decide (c = 6)), V.bl (decide (c = 7)), V.bl (decide (c = 8))]) := hp32
    have k35 : Kp [] H16 H30 := hk27.step0 hk33
    have f36 : Exc H30 a (A.e c) := Exc.kp0 f22 k35
    refine ⟨_, rfl, _, rfl, _, _, _, _, _, rfl, f36, T.ex c (by omega), .own _, T.kit c 9 (by omega) (by decide), _, rfl, _, _, _, _, _, rfl, f36, T.ex c (by omega), .own _, T.kit c 10 (by omega) (by decide), _, rfl, _, _, _, _, _, rfl, f36, T.ex c (by omega), .own _, T.kit c 11 (by omega) (by decide), (by show 3 ≤ sizeLine; decide), fun p37 H38 hn39 hp40 hk41 => ?_⟩
    have f42 : H38 p29 = some (.lst [V.bl (decide (c = 0)), V.bl (decide (c = 1)), V.bl (decide (c = 2)), V.bl (decide (c = 3)), V.bl (decide (c = 4)), V.bl (decide (c = 5)), V.bl (decide (c = 6)), V.bl (decide (c = 7)), V.bl (decide (c = 8))]) := hk41.at0 hp34 
    refine ⟨_, _, _, _, rfl, rfl, f42, hp40, (by show ([V.bl (decide (c = 0)), V.bl (decide (c = 1)), V.bl (decide (c = 2)), V.bl (decide (c = 3)), V.bl (decide (c = 4)), V.bl (decide (c = 5)), V.bl (decide (c = 6)), V.bl (decide (c = 7)), V.bl (decide (c = 8))]).length + ([V.bl (decide (c = 9)), V.bl (decide (c = 10)), V.bl (decide (c = 11))]).length ≤ sizeLine; refine slen ?_; first | (simp; done) | omega | (simp; omega) | (subst_vars; simp; omega)), fun p43 H44 hn45 hp46 hk47 => ?_⟩
    have hp48 : H44 p43 = some (.lst [V.bl (decide (c = 0)), V.bl (decide (c = 1)), V.bl (decide (c = 2)), V.bl (decide (c = 3)), V.bl (decide (c = 4)), V.bl (decide (c = 5)), V.bl (decide (c = 6)), V.bl (decide (c = 7)), V.bl (decide (c = 8)), V.bl (decide (c = 9)), V.bl (decide (c = 10)), V.bl (decide (c = 11))]) := hp46
    have k49 : Kp [] H30 H44 := hk41.step0 hk47
    have f50 : Exc H44 a (A.e c) := Exc.kp0 f36 k49
    refine ⟨_, rfl, _, rfl, _, _, _, _, _, rfl, f50, T.ex c (by omega), .own _, T.kit c 12 (by omega) (by decide), _, rfl, _, _, _, _, _, rfl, f50, T.ex c (by omega), .own _, T.kit c 13 (by omega) (by decide), _, rfl, _, _, _, _, _, rfl, f50, T.ex c (by omega), .own _, T.kit c 14 (by omega) (by decide), (by show 3 ≤ sizeLine; decide), fun p51 H52 hn53 hp54 hk55 => ?_⟩
    have f56 : H52 p43 = some (.lst [V.bl (decide (c = 0)), V.bl (decide (c = 1)), V.bl (decide (c = 2)), V.bl (decide (c = 3)), V.bl (decide (c = 4)), V.bl (decide (c = 5)), V.bl (decide (c = 6)), V.bl (decide (c = 7)), V.bl (decide (c = 8)), V.bl (decide (c = 9)), V.bl (decide (c = 10)), V.bl (decide (c = 11))]) := hk55.at0 hp48 
    refine ⟨_, _, _, _, rfl, rfl, f56, hp54, (by show ([V.bl (decide (c = 0)), V.bl (decide (c = 1)), V.bl (decide (c = 2)), V.bl (decide (c = 3)), V.bl (decide (c = 4)), V.bl (decide (c = 5)), V.bl (decide (c = 6)), V.bl (decide (c = 7)), V.bl (decide (c = 8)), V.bl (decide (c = 9)), V.bl (decide (c = 10)), V.bl (decide (c = 11))]).length + ([V.bl (decide (c = 12)), V.bl (decide (c = 13)), V.bl (decide (c = 14))]).length ≤ sizeLine; refine slen ?_; first | (simp; done) | omega | (simp; omega) | (subst_vars; simp; omega)), fun p57 H58 hn59 hp60 hk61 => ?_⟩
    have hp62 : H58 p57 = some (.lst [V.bl (decide (c = 0)), V.bl (decide (c = 1)), V.bl (decide (c = 2)), V.bl (decide (c = 3)), V.bl (decide (c = 4)), V.bl (decide (c = 5)), V.bl (decide (c = 6)), V.bl (decide (c = 7)), V.bl (decide (c = 8)), V.bl (decide (c = 9)), V.bl (decide (c = 10)), V.bl (decide (c = 11)), V.bl (decide (c = 12)), V.bl (decide (c = 13)), V.bl (decide (c = 14))]) := hp60
    have k63 : Kp [] H44 H58 := hk55.step0 hk61
    have f64 : Exc H58 a (A.e c) := Exc.kp0 f50 k63
    refine ⟨_, rfl, _, rfl, _, _, _, _, _, rfl, f64, T.ex c (by omega), .own _, T.kit c 15 (by omega) (by decide), _, rfl, _, _, _, _, _, rfl, f64, T.ex c (by omega), .own _, T.kit c 16 (by omega) (by decide), _, rfl, _, _, _, _, _, rfl, f64, T.ex c (by omega), .own _, T.kit c 17 (by omega) (by decide), (by show 3 ≤ sizeLine; decide), fun p65 H66 hn67 hp68 hk69 => ?_⟩
    have f70 : H66 p57 = some (.lst [V.bl (decide (c = 0)), V.bl (decide (c = 1)), V.bl (decide (c = 2)), V.bl (decide (c = 3)), V.bl (decide (c = 4)), V.bl (decide (c = 5)), V.bl (decide (c = 6)), V.bl (decide (c = 7)), V.bl (decide (c = 8)), V.bl (decide (c = 9)), V.bl (decide (c = 10)), V.bl (decide (c = 11)), V.bl (decide (c = 12)), V.bl (decide (c = 13)), V.bl (decide (c = 14))]) := hk69.at0 hp62 
    refine ⟨_, _, _, _, rfl, rfl, f70, hp68, (by show ([V.bl (decide (c = 0)), V.bl (decide (c = 1)), V.bl (decide (c = 2)), V.bl (decide (c = 3)), V.bl (decide (c = 4)), V.bl (decide (c = 5)), V.bl (decide (c = 6)), V.bl (decide (c = 7)), V.bl (decide (c = 8)), V.bl (decide (c = 9)), V.bl (decide (c = 10)), V.bl (decide (c = 11)), V.bl (decide (c = 12)), V.bl (decide (c = 13)), V.bl (decide (c = 14))]).length + ([V.bl (decide (c = 15)), V.bl (decide (c = 16)), V.bl (decide (c = 17))]).length ≤ sizeLine; refine slen ?_; first | (simp; done) | omega | (simp; omega) | (subst_vars; simp; omega)), fun p71 H72 hn73 hp74 hk75 => ?_⟩
    have hp76 : H72 p71 = some (.lst [V.bl (decide (c = 0)), V.bl (decide (c = 1)), V.bl (decide (c = 2)), V.bl (decide (c = 3)), V.bl (decide (c = 4)), V.bl (decide (c = 5)), V.bl (decide (c = 6)), V.bl (decide (c = 7)), V.bl (decide (c = 8)), V.bl (decide (c = 9)), V.bl (decide (c = 10)), V.bl (decide (c = 11)), V.bl (decide (c = 12)), V.bl (decide (c = 13)), V.bl (decide (c = 14)), V.bl (decide (c = 15)), V.bl (decide (c = 16)), V.bl (decide (c = 17))]) := hp74
    have k77 : Kp [] H58 H72 := hk69.step0 hk75
    have f78 : Exc H72 a (A.e c) := Exc.kp0 f64 k77
    refine ⟨_, rfl, _, rfl, _, _, _, _, _, rfl, f78, T.ex c (by omega), .own _, T.kit c 18 (by omega) (by decide), _, rfl, _, _, _, _, _, rfl, f78, T.ex c (by omega), .own _, T.kit c 19 (by omega) (by decide), _, rfl, _, _, _, _, _, rfl, f78, T.ex c (by omega), .own _, T.kit c 20 (by omega) (by decide), (by show 3 ≤ sizeLine; decide), fun p79 H80 hn81 hp82 hk83 => ?_⟩
    have f84 : H80 p71 = some (.lst [V.bl (decide (c = 0)), V.bl (decide (c = 1)), V.bl (decide (c = 2)), V.bl (decide (c = 3)), V.bl (decide (c = 4)), V.bl (decide (c = 5)), V.bl (decide (c = 6)), V.bl (decide (c = 7)), V.bl (decide (c = 8)), V.bl (decide (c = 9)), V.bl (decide (c = 10)), V.bl (decide (c = 11)), V.bl (decide (c = 12)), V.bl (decide (c = 13)), V.bl (decide (c = 14)), V.bl (decide (c = 15)), V.bl (decide (c = 16)), V.bl (decide (c = 17))]) := hk83.at0 hp76 
    refine ⟨_, _, _, _, rfl, rfl, f84, hp82, (by show ([V.bl (decide (c = 0)), V.bl (decide (c = 1)), V.bl (decide (c = 2)), V.bl (decide (c = 3)), V.bl (decide (c = 4)), V.bl (decide (c = 5)), V.bl (decide (c = 6)), V.bl (decide (c = 7)), V.bl (decide (c = 8)), V.bl (decide (c = 9)), V.bl (decide (c = 10)), V.bl (decide (c = 11)), V.bl (decide (c = 12)), V.bl (decide (c = 13)), V.bl (decide (c = 14)), V.bl (decide (c = 15)), V.bl (decide (c = 16)), V.bl (decide (c = 17))]).length + ([V.bl (decide (c = 18)), V.bl (decide (c = 19)), V.bl (decide (c = 20))]).length ≤ sizeLine; refine slen ?_; first | (simp; done) | omega | (simp; omega) | (subst_vars; simp; omega)), fun p85 H86 hn87 hp88 hk89 => ?_⟩
    have hp90 : H86 p85 = some (.lst [V.bl (decide (c = 0)), V.bl (decide (c = 1)), V.bl (decide (c = 2)), V.bl (decide (c = 3)), V.bl (decide (c = 4)), V.bl (decide (c = 5)), V.bl (decide (c = 6)), V.bl (decide (c = 7)), V.bl (decide (c = 8)), V.bl (decide (c = 9)), V.bl (decide (c = 10)), V.bl (decide (c = 11)), V.bl (decide (c = 12)), V.bl (decide (c = 13)), V.bl (decide (c = 14)), V.bl (decide (c = 15)), V.bl (decide (c = 16)), V.bl (decide (c = 17)), V.bl (decide (c = 18)), V.bl (decide (c = 19)), V.bl (decide (c = 20))]) := hp88
    have k91 : Kp [] H72 H86 := hk83.step0 hk89
    have f92 : Exc H86 a (A.e c) := Exc.kp0 f78 k91
    refine ⟨_, rfl, _, rfl, _, _, _, _, _, rfl, f92, T.ex c (by omega), .own _, T.kit c 21 (by omega) (by decide), _, rfl, _, _, _, _, _, rfl, f92, T.ex c (by omega), .own _, T.kit c 22 (by omega) (by decide), (by show 2 ≤ sizeLine; decide), fun p93 H94 hn95 hp96 hk97 => ?_⟩
    have f98 : H94 p85 = some (.lst [V.bl (decide (c = 0)), V.bl (decide (c = 1)), V.bl (decide (c = 2)), V.bl (decide (c = 3)), V.bl (decide (c = 4)), V.bl (decide (c = 5)), V.bl (decide (c = 6)), V.bl (decide (c = 7)), V.bl (decide (c = 8)), V.bl (decide (c = 9)), V.bl (decide (c = 10)), V.bl (decide (c = 11)), V.bl (decide (c = 12)), V.bl (decide (c = 13)), V.bl (decide (c = 14)), V.bl (decide (c = 15)), V.bl (decide (c = 16)), V.bl (decide (c = 17)), V.bl (decide (c = 18)), V.bl (decide (c = 19)), V.bl (decide (c = 20))]) := hk97.at0 hp90 
    refine ⟨_, _, _, _, rfl, rfl, f98, hp96, (by show ([V.bl (decide (c = 0)), V.bl (decide (c = 1)), V.bl (decide (c = 2)), V.bl (decide (c = 3)), V.bl (decide (c = 4)), V.bl (decide (c = 5)), V.bl (decide (c = 6)), V.bl (decide (c = 7)), V.bl (decide (c = 8)), V.bl (decide (c = 9)), V.bl (decide (c = 10)), V.bl (decide (c = 11)), V.bl (decide (c = 12)), V.bl (decide (c = 13)), V.bl (decide (c = 14)), V.bl (decide (c = 15)), V.bl (decide (c = 16)), V.bl (decide (c = 17)), V.bl (decide (c = 18)), V.bl (decide (c = 19)), V.bl (decide (c = 20))]).length + ([V.bl (decide (c = 21)), V.bl (decide (c = 22))]).length ≤ sizeLine; refine slen ?_; first | (simp; done) | omega | (simp; omega) | (subst_vars; simp; omega)), fun p99 H100 hn101 hp102 hk103 => ?_⟩
    have hp104 : H100 p99 = some (.lst [V.bl (decide (c = 0)), V.bl (decide (c = 1)), V.bl (decide (c = 2)), V.bl (decide (c = 3)), V.bl (decide (c = 4)), V.bl (decide (c = 5)), V.bl (decide (c = 6)), V.bl (decide (c = 7)), V.bl (decide (c = 8)), V.bl (decide (c = 9)), V.bl (decide (c = 10)), V.bl (decide (c = 11)), V.bl (decide (c = 12)), V.bl (decide (c = 13)), V.bl (decide (c = 14)), V.bl (decide (c = 15)), V.bl (decide (c = 16)), V.bl (decide (c = 17)), V.bl (decide (c = 18)), V.bl (decide (c = 19)), V.bl (decide (c = 20)), V.bl (decide (c = 21)), V.bl (decide (c = 22))]) := hp102
    have k105 : Kp [] H H10 := hk7.step0 hk13
    have k106 : Kp [] H H16 := k105.step0 hk19
    have k107 : Kp [] H H24 := k106.step0 hk27
    have k108 : Kp [] H H30 := k107.step0 hk33
    have k109 : Kp [] H H38 := k108.step0 hk41
    have k110 : Kp [] H H44 := k109.step0 hk47
    have k111 : Kp [] H H52 := k110.step0 hk55
    have k112 : Kp [] H H58 := k111.step0 hk61
    have k113 : Kp [] H H66 := k112.step0 hk69
    have k114 : Kp [] H H72 := k113.step0 hk75
    have k115 : Kp [] H H80 := k114.step0 hk83
    have k116 : Kp [] H H86 := k115.step0 hk89
    have k117 : Kp [] H H94 := k116.step0 hk97
    have k118 : Kp [] H H100 := k117.step0 hk103
    exact q p99 H100 k118 (k117.free hn101) hp104
theorem ok__law_alone (T : Tx K mg A) : FnOk P w K mg base CX0 3 A.f__law_alone A.d__law_alone ps__law_alone (sp__law_alone K A) := by
  refine T.F__law_alone.ok sc__law_alone (fun vs H Q E h => ?_) (fun cdv Ar outer s H vs Q E hr h => ?_)
  · obtain ⟨_, _, _, _, rfl, _⟩ := h
    rfl
  · obtain ⟨l, f, s, n, rfl, g1, g2, g3, g4, q⟩ := h
    refine ⟨_, (pss_cons (ps_for PassesOwn.never rfl (pi_enum (by rfl) T.n_enumerate (pa_cons (pv 0) pa_nil)) (pg_tup rfl (pgs_cons (pg_name (i := 2) sc__law_alone.nd rfl (Or.inr rfl)) (pgs_cons (pg_name (i := 3) sc__law_alone.nd rfl (Or.inl rfl)) pgs_nil)))
  (pss_cons (ps_if (PW.pt (pw_or (pt_not (pt_val (pe_callB (r := rIsX K) call_isX (by rfl) T.n_isinstance (by decide +kernel) (pa_cons (pv 3) (pa_cons (pe_glob (v := .ref A.L) rfl T.g_LookError rfl) pa_nil))))) (pw_or1 (pt_not (pt_val (pe_callB (r := rIsX K) call_isX (by rfl) T.n_isinstance (by decide +kernel) (pa_cons (pv 3) (pa_cons (pe_bltn (v := .ty "ValueError") (u := .type "ValueError") (by rfl) T.n_ValueError (by decide +kernel) rfl) pa_nil))))))))
  (pss_one (ps_ret pe_bl))
  pss_nil)
  (pss_one (ps_if (pt_cmpR (r := rNeD K) (op_neD hr.units) (pe_call (ok__law_marks T) (hr.mono (by decide)) rfl T.g__law_marks T.k__law_marks T.b__law_marks .nil pass0 (pa_cons (pv 3) pa_nil)) (pe_lc (own := [("_law_k", 4)]) (g := gName 4) (by rfl) sc__law_alone.nd (pi_range1 rfl T.n_range (pa_cons pe_int pa_nil)) (blkOk_by (own := [("_law_k", 4)]) (N := N__law_alone) (sc := defScope s__law_alone) (by decide +kernel)) (fun _ _ _ _ _ => (pg_name (i := 4) sc__law_alone.nd rfl (Or.inl rfl))) (fun _ _ _ _ _ => pts_nil) (fun _ _ _ _ _ => (pe_cmpR op_eq (pv 4) (pe_op op_add (pv 1) (pv 2)) (nomark _)))) (nomark _))
  (pss_one (ps_ret pe_bl))
  pss_nil))))
  (pss_one (ps_ret pe_bl))), ?_⟩
    refine ⟨_, rfl, ?_⟩
    obtain ⟨ps5, e6, l7⟩ := id g1
    have ll8 : ps5.length = _ := l7.len
    have ll9 := List.length_range' (s := s) (n := n) (step := 1)
    refine ⟨_, _, rfl, (.inl (.inl e6)), for_it (walk_enum (K := K) (a := l) (xs := (ps5.map V.ref))) (fun i σ H' => ∃ (v1 : Option V) (v2 : Option V) (v3 : Option V), σ = [some (V.ref l), some (V.int (f)), v1, v2, none] ∧ Kp [] H H' ∧ (v3 = none)) ?_ ?_ ?_ ?_⟩
    · exact ⟨none, none, none, rfl, (Kp.refl [] H), rfl⟩
    · rintro i σ H12 hi ⟨v115, v216, v317, rfl, k13, h14⟩
      have f18 : H12 l = some (.lst (ps5.map V.ref)) := k13.at0 e6 
      exact (.inl (.inl f18))
    · rintro i20 _ σ H19 H27 hi21 ⟨v124, v225, v326, rfl, k22, h23⟩ ⟨T28, _, _, rfl, hTn29, hE30, e31, hy33⟩
      obtain rfl := Option.some.inj e31
      obtain ⟨y32, hy36, rfl⟩ := getMap hy33
      have hl37 := lt_of_get hy36
      obtain ⟨c38, hc39, hE40⟩ := ExIn.at l7 hy36
      obtain ⟨hcs, hcn⟩ := range_at hc39
      have hT35 : H27 T28 = some (.tup [V.int (i20 : Nat), V.ref y32]) := by rw [hE30]; exact upd_same
      have hk34 : Kp [] H19 H27 := by rw [hE30]; exact (Kp.refl [] _).new hTn29
      have k41 : Kp [] H H27 := k22.step0 hk34
      have f42 : Exc H27 y32 (A.e c38) := Exc.kp0 hE40 k41
      refine ⟨_, _, rfl, (.inl (.inl hT35)), rfl, _, _, rfl, _, _, rfl, rfl, _, rfl, _, _, _, _, _, rfl, f42, T.ex c38 (by omega), .own _, T.kitL c38 (by omega), _, rfl, ifF rfl ?_⟩
      refine ⟨_, rfl, _, _, _, _, _, rfl, f42, T.ex c38 (by omega), .ty _, T.kitV c38 (by omega), _, rfl, ifF rfl ?_⟩
      refine ⟨_, rfl, y32, _, rfl, f42, (by first | omega | assumption | decide | (simp; done) | (simp; omega)), fun l43 H46 hk47 h44 h45 => ?_⟩
      refine ⟨_, rfl, (by first | omega | assumption | decide | (simp; done) | (simp; omega)), (by first | omega | assumption | decide | (simp; done) | (simp; omega)), fun D48 hD49 => lc_range (lo := 0) (n := Int.toNat 23) (fun i H' => ∃ (bs : List Bool), H' D48 = some (.lst (bs.map V.bl)) ∧ Kp [] H46 H' ∧ (bs = (List.range i).map fun (k : Nat) => decide ((k : Int) = f + (i20 : Int)))) ?_ ?_ ?_⟩
      · refine updN (G := fun H' => ∃ (bs : List Bool), H' D48 = some (.lst (bs.map V.bl)) ∧ Kp [] H46 H' ∧ (bs = (List.range 0).map fun (k : Nat) => decide ((k : Int) = f + (i20 : Int)))) hD49 (fun H50 hp51 hk52 => ?_)
        exact ⟨[], hp51, hk52, rfl⟩
      · rintro i54 H53 hi55 ⟨bs59, hd57, k56, h58⟩
        have hi55 : i54 < Int.toNat 23 := hi55
        refine ⟨rfl, ?_⟩
        unfold tYes
        refine ifT rfl ?_
        refine ⟨_, rfl, _, rfl, _, rfl, _, _, rfl, rfl, rfl, _, hd57, (by show ((bs59.map V.bl)).length < sizeLine; refine slenlt ?_; first | (simp; done) | omega | (simp; omega) | (subst_vars; simp; omega)), updK (G := fun H' => ∃ (bs : List Bool), H' D48 = some (.lst (bs.map V.bl)) ∧ Kp [] H46 H' ∧ (bs = (List.range (i54 + 1)).map fun (k : Nat) => decide ((k : Int) = f + (i20 : Int)))) (fun H60 hp61 hk62 => ?_)⟩
        have k63 : Kp [] H46 H60 := k56.step hk62 (fun b hb => by rw [List.mem_singleton.mp hb]; exact .inr hD49)
        exact ⟨(bs59 ++ [decide ((0 + (i54 : Int)) = (f + (i20 : Int)))]), (show H60 D48 = some (.lst _) by first | exact hp61 | (rw [hp61]; simp)), k63, (by rw [List.range_succ, List.map_append, h58]; simp)⟩
      · rintro H64 ⟨bs68, hd66, k65, h67⟩
        have f69 : H64 l43 = some (.lst (((List.range 23).map fun k => decide (_ = k)).map V.bl)) := k65.at0 h45 
        refine ⟨_, _, dp_bools f69, dp_bools hd66, (shaped_bools _), (shaped_bools _), _, rfl, ifF (by rw [eqv_bools, decide_eq_true (by rw [h67]; exact marks_eq hcs (by omega))]; rfl) ?_⟩
        have k70 : Kp [] H H46 := k41.step0 hk47
        have k71 : Kp [] H H64 := k70.step0 k65
        exact ⟨some (V.int ((i20 : Int))), some (V.ref y32), none, rfl, k71, rfl⟩
    · rintro σ H72 ⟨v175, v276, v377, rfl, k73, h74⟩
      try simp only [List.length_map] at h74
      exact q H72 k73
theorem ok__law_single (T : Tx K mg A) : FnOk P w K mg base CX0 4 A.f__law_single A.d__law_single ps__law_single (sp__law_single K A) := by
  refine T.F__law_single.ok sc__law_single (fun vs H Q E h => ?_) (fun cdv Ar outer s H vs Q E hr h => ?_)
  · obtain ⟨_, _, _, _, rfl, _⟩ := h
    rfl
  · obtain ⟨v, u, d1, d2, rfl, g1, g2, q⟩ := h
    refine ⟨_, (pss_cons (ps_set (i := 2) sc__law_single.nd rfl (Or.inl rfl) (pe_lstK (pa_cons (pe_mkE T.oex_BadName T.ini_BadName T.tin_BadName (ok_BadName___init__ T) (hr.mono (by decide)) T.b_BadName___init__ pass0 rfl T.g_BadName (pa_cons (pv 0) pa_nil)) (pa_cons (pe_mkE T.oex_NameTaken T.ini_NameTaken T.tin_NameTaken (ok_NameTaken___init__ T) (hr.mono (by decide)) T.b_NameTaken___init__ pass0 rfl T.g_NameTaken (pa_cons (pv 1) pa_nil)) (pa_cons (pe_mkE T.oex_NoStep T.ini_NoStep T.tin_NoStep (ok_NoStep___init__ T) (hr.mono (by decide)) T.b_NoStep___init__ pass0 rfl T.g_NoStep (pa_cons (pv 0) pa_nil)) (pa_cons (pe_mkE T.oex_NoFile T.ini_NoFile T.tin_NoFile (ok_NoFile___init__ T) (hr.mono (by decide)) T.b_NoFile___init__ pass0 rfl T.g_NoFile (pa_cons (pv 1) pa_nil)) (pa_cons (pe_mkE T.oex_NoReader T.ini_NoReader T.tin_NoReader (ok_NoReader___init__ T) (hr.mono (by decide)) T.b_NoReader___init__ pass0 rfl T.g_NoReader (pa_cons (pv 0) pa_nil)) (pa_cons (pe_mkE T.oex_NoRow T.ini_NoRow T.tin_NoRow (ok_NoRow___init__ T) (hr.mono (by decide)) T.b_NoRow___init__ pass0 rfl T.g_NoRow (pa_cons (pv 1) pa_nil)) (pa_cons (pe_mkE T.oex_Clash T.ini_Clash T.tin_Clash (ok_Clash___init__ T) (hr.mono (by decide)) T.b_Clash___init__ pass0 rfl T.g_Clash (pa_cons (pv 0) pa_nil)) (pa_cons (pe_mkE T.oex_SameStep T.ini_SameStep T.tin_SameStep (ok_SameStep___init__ T) (hr.mono (by decide)) T.b_SameStep___init__ pass0 rfl T.g_SameStep (pa_cons (pv 1) pa_nil)) pa_nil))))))))))
  (pss_cons (ps_expr (pe_bm PySem.F.plainAttrs_list PySem.F.slot_list_append PySem.F.type_list_append mt_appendK (pv 2) (pa_cons (pe_mkE T.oex_SameFile T.ini_SameFile T.tin_SameFile (ok_SameFile___init__ T) (hr.mono (by decide)) T.b_SameFile___init__ pass0 rfl T.g_SameFile (pa_cons (pv 0) pa_nil)) pa_nil)))
  (pss_one (ps_ret (pv 2))))), ?_⟩
    refine ⟨_, rfl, (by show 1 ≤ 1000; decide), fun a3 ha4 => ⟨a3, _, rfl, upd_same, fun d5 H6 h7 h8 hk9 hd10 => ⟨rfl, ?_⟩⟩⟩
    have hd10 := newE_d ha4 hd10
    have hk9 := newE ha4 hk9
    refine ⟨_, rfl, (by show 1 ≤ 1000; decide), fun a11 ha12 => ⟨a11, _, rfl, upd_same, fun d13 H14 h15 h16 hk17 hd18 => ⟨rfl, ?_⟩⟩⟩
    have hd18 := newE_d ha12 hd18
    have hk17 := newE ha12 hk17
    refine ⟨_, rfl, (by show 1 ≤ 1000; decide), fun a19 ha20 => ⟨a19, _, rfl, upd_same, fun d21 H22 h23 h24 hk25 hd26 => ⟨rfl, ?_⟩⟩⟩
    have hd26 := newE_d ha20 hd26
    have hk25 := newE ha20 hk25
    refine ⟨_, rfl, (by show 1 ≤ 1000; decide), fun a27 ha28 => ⟨a27, _, rfl, upd_same, fun d29 H30 h31 h32 hk33 hd34 => ⟨rfl, ?_⟩⟩⟩
    have hd34 := newE_d ha28 hd34
    have hk33 := newE ha28 hk33
    refine ⟨_, rfl, (by show 1 ≤ 1000; decide), fun a35 ha36 => ⟨a35, _, rfl, upd_same, fun d37 H38 h39 h40 hk41 hd42 => ⟨rfl, ?_⟩⟩⟩
    have hd42 := newE_d ha36 hd42
    have hk41 := newE ha36 hk41
    refine ⟨_, rfl, (by show 1 ≤ 1000; decide), fun a43 ha44 => ⟨a43, _, rfl, upd_same, fun d45 H46 h47 h48 hk49 hd50 => ⟨rfl, ?_⟩⟩⟩
    have hd50 := newE_d ha44 hd50
    have hk49 := newE ha44 hk49
    refine ⟨_, rfl, (by show 1 ≤ 1000; decide), fun a51 ha52 => ⟨a51, _, rfl, upd_same, fun d53 H54 h55 h56 hk57 hd58 => ⟨rfl, ?_⟩⟩⟩
    have hd58 := newE_d ha52 hd58
    have hk57 := newE ha52 hk57
    refine ⟨_, rfl, (by show 1 ≤ 1000; decide), fun a59 ha60 => ⟨a59, _, rfl, upd_same, fun d61 H62 h63 h64 hk65 hd66 => ⟨rfl, ?_⟩⟩⟩
    have hd66 := newE_d ha60 hd66
    have hk65 := newE ha60 hk65
    refine ⟨(by show 8 ≤ sizeLine; decide), fun p67 H68 hn69 hp70 hk71 => ?_⟩
    refine ⟨_, rfl, .inl ⟨rfl, _, SqL.of hp70⟩, _, rfl, (by show 1 ≤ 1000; decide), fun a72 ha73 => ⟨a72, _, rfl, upd_same, fun d74 H75 h76 h77 hk78 hd79 => ⟨rfl, ?_⟩⟩⟩
    have hd79 := newE_d ha73 hd79
    have hk78 := newE ha73 hk78
    have f80 : H75 p67 = some (.lst [V.ref a3, V.ref a11, V.ref a19, V.ref a27, V.ref a35, V.ref a43, V.ref a51, V.ref a59]) := hk78.at0 hp70 
    refine ⟨_, _, _, rfl, rfl, f80, (by show ([V.ref a3, V.ref a11, V.ref a19, V.ref a27, V.ref a35, V.ref a43, V.ref a51, V.ref a59]).length < sizeLine; refine slenlt ?_; first | (simp; done) | omega | (simp; omega) | (subst_vars; simp; omega)), fun H81 hp82 hk83 => ?_⟩
    refine ⟨_, rfl, ?_⟩
    have ne85 : p67 ≠ a72 := ne_of_none hp70 ha73
    have f84 : H81 a72 = some (exo a72 (A.e 8) (some d74)) := hk83.at1 h76 ne85.symm
    have ne87 : p67 ≠ d74 := ne_of_none hp70 hd79
    have f86 : H81 d74 = some (exd d74 [("name", v)]) := hk83.at1 h77 ne87.symm
    have k88 : Kp [] H62 H75 := hk71.step0 hk78
    have k89 : Kp [] H62 H81 := k88.step hk83 (fun b hb => by rw [List.mem_singleton.mp hb]; exact .inr hn69)
    have f90 : H81 a59 = some (exo a59 (A.e 7) (some d61)) := k89.at0 h63 
    have f91 : H81 d61 = some (exd d61 [("name", u)]) := k89.at0 h64 
    have k92 : Kp [] H54 H68 := hk65.step0 hk71
    have k93 : Kp [] H54 H75 := k92.step0 hk78
    have k94 : Kp [] H54 H81 := k93.step hk83 (fun b hb => by rw [List.mem_singleton.mp hb]; exact .inr (hk65.free hn69))
    have f95 : H81 a51 = some (exo a51 (A.e 6) (some d53)) := k94.at0 h55 
    have f96 : H81 d53 = some (exd d53 [("name", v)]) := k94.at0 h56 
    have k97 : Kp [] H46 H62 := hk57.step0 hk65
    have k98 : Kp [] H46 H68 := k97.step0 hk71
    have k99 : Kp [] H46 H75 := k98.step0 hk78
    have k100 : Kp [] H46 H81 := k99.step hk83 (fun b hb => by rw [List.mem_singleton.mp hb]; exact .inr (k97.free hn69))
    have f101 : H81 a43 = some (exo a43 (A.e 5) (some d45)) := k100.at0 h47 
    have f102 : H81 d45 = some (exd d45 [("name", u)]) := k100.at0 h48 
    have k103 : Kp [] H38 H54 := hk49.step0 hk57
    have k104 : Kp [] H38 H62 := k103.step0 hk65
    have k105 : Kp [] H38 H68 := k104.step0 hk71
    have k106 : Kp [] H38 H75 := k105.step0 hk78
    have k107 : Kp [] H38 H81 := k106.step hk83 (fun b hb => by rw [List.mem_singleton.mp hb]; exact .inr (k104.free hn69))
    have f108 : H81 a35 = some (exo a35 (A.e 4) (some d37)) := k107.at0 h39 
    have f109 : H81 d37 = some (exd d37 [("name", v)]) := k107.at0 h40 
    have k110 : Kp [] H30 H46 := hk41.step0 hk49
    have k111 : Kp [] H30 H54 := k110.step0 hk57
    have k112 : Kp [] H30 H62 := k111.step0 hk65
    have k113 : Kp [] H30 H68 := k112.step0 hk71
    have k114 : Kp [] H30 H75 := k113.step0 hk78
    have k115 : Kp [] H30 H81 := k114.step hk83 (fun b hb => by rw [List.mem_singleton.mp hb]; exact .inr (k112.free hn69))
    have f116 : H81 a27 = some (exo a27 (A.e 3) (some d29)) := k115.at0 h31 
    have f117 : H81 d29 = some (exd d29 [("name", u)]) := k115.at0 h32 
    have k118 : Kp [] H22 H38 := hk33.step0 hk41
    have k119 : Kp [] H22 H46 := k118.step0 hk49
    have k120 : Kp [] H22 H54 := k119.step0 hk57
    have k121 : Kp [] H22 H62 := k120.step0 hk65
    have k122 : Kp [] H22 H68 := k121.step0 hk71
    have k123 : Kp [] H22 H75 := k122.step0 hk78
    have k124 : Kp [] H22 H81 := k123.step hk83 (fun b hb => by rw [List.mem_singleton.mp hb]; exact .inr (k121.free hn69))
    have f125 : H81 a19 = some (exo a19 (A.e 2) (some d21)) := k124.at0 h23 
    have f126 : H81 d21 = some (exd d21 [("name", v)]) := k124.at0 h24 
    have k127 : Kp [] H14 H30 := hk25.step0 hk33
    have k128 : Kp [] H14 H38 := k127.step0 hk41
    have k129 : Kp [] H14 H46 := k128.step0 hk49
    have k130 : Kp [] H14 H54 := k129.step0 hk57
    have k131 : Kp [] H14 H62 := k130.step0 hk65
    have k132 : Kp [] H14 H68 := k131.step0 hk71
    have k133 : Kp [] H14 H75 := k132.step0 hk78
    have k134 : Kp [] H14 H81 := k133.step hk83 (fun b hb => by rw [List.mem_singleton.mp hb]; exact .inr (k131.free hn69))
    have f135 : H81 a11 = some (exo a11 (A.e 1) (some d13)) := k134.at0 h15 
    have f136 : H81 d13 = some (exd d13 [("name", u)]) := k134.at0 h16 
    have k137 : Kp [] H6 H22 := hk17.step0 hk25
    have k138 : Kp [] H6 H30 := k137.step0 hk33
    have k139 : Kp [] H6 H38 := k138.step0 hk41
    have k140 : Kp [] H6 H46 := k139.step0 hk49
    have k141 : Kp [] H6 H54 := k140.step0 hk57
    have k142 : Kp [] H6 H62 := k141.step0 hk65
    have k143 : Kp [] H6 H68 := k142.step0 hk71
    have k144 : Kp [] H6 H75 := k143.step0 hk78
    have k145 : Kp [] H6 H81 := k144.step hk83 (fun b hb => by rw [List.mem_singleton.mp hb]; exact .inr (k142.free hn69))
    have f146 : H81 a3 = some (exo a3 (A.e 0) (some d5)) := k145.at0 h7 
    have f147 : H81 d5 = some (exd d5 [("name", v)]) := k145.at0 h8 
    have k148 : Kp [] H H14 := hk9.step0 hk17
    have k149 : Kp [] H H22 := k148.step0 hk25
    have k150 : Kp [] H H30 := k149.step0 hk33
    have k151 : Kp [] H H38 := k150.step0 hk41
    have k152 : Kp [] H H46 := k151.step0 hk49
    have k153 : Kp [] H H54 := k152.step0 hk57
    have k154 : Kp [] H H62 := k153.step0 hk65
    have k155 : Kp [] H H68 := k154.step0 hk71
    have k156 : Kp [] H H75 := k155.step0 hk78
    have k157 : Kp [] H H81 := k156.step hk83 (fun b hb => by rw [List.mem_singleton.mp hb]; exact .inr (k154.free hn69))
    exact q p67 [a3, a11, a19, a27, a35, a43, a51, a59, a72] H81 k157 (k154.free hn69) hp82 (ExIn.cons (.inl ⟨d5, _, f146, f147⟩) (ExIn.cons (.inl ⟨d13, _, f135, f136⟩) (ExIn.cons (.inl ⟨d21, _, f125, f126⟩) (ExIn.cons (.inl ⟨d29, _, f116, f117⟩) (ExIn.cons (.inl ⟨d37, _, f108, f109⟩) (ExIn.cons (.inl ⟨d45, _, f101, f102⟩) (ExIn.cons (.inl ⟨d53, _, f95, f96⟩) (ExIn.cons (.inl ⟨d61, _, f90, f91⟩) (ExIn.cons (.inl ⟨d74, _, f84, f86⟩) ExIn.nil))))))))) (NmIn.cons ⟨_, _, f146, f147, T.xf_BadName, T.nf_BadName_name⟩ (NmIn.cons ⟨_, _, f135, f136, T.xf_NameTaken, T.nf_NameTaken_name⟩ (NmIn.cons ⟨_, _, f125, f126, T.xf_NoStep, T.nf_NoStep_name⟩ (NmIn.cons ⟨_, _, f116, f117, T.xf_NoFile, T.nf_NoFile_name⟩ (NmIn.cons ⟨_, _, f108, f109, T.xf_NoReader, T.nf_NoReader_name⟩ (NmIn.cons ⟨_, _, f101, f102, T.xf_NoRow, T.nf_NoRow_name⟩ (NmIn.cons ⟨_, _, f95, f96, T.xf_Clash, T.nf_Clash_name⟩ (NmIn.cons ⟨_, _, f90, f91, T.xf_SameStep, T.nf_SameStep_name⟩ (NmIn.cons ⟨_, _, f84, f86, T.xf_SameFile, T.nf_SameFile_name⟩ NmIn.nil)))))))))
theorem ok__law_pairs (T : Tx K mg A) : FnOk P w K mg base CX0 5 A.f__law_pairs A.d__law_pairs ps__law_pairs (sp__law_pairs K A) := by
  refine T.F__law_pairs.ok sc__law_pairs (fun vs H Q E h => ?_) (fun cdv Ar outer s H vs Q E hr h => ?_)
  · obtain ⟨_, _, _, _, rfl, _⟩ := h
    rfl
  · obtain ⟨v, u, d1, d2, rfl, g1, g2, q⟩ := h
    refine ⟨_, (pss_cons (ps_set (i := 2) sc__law_pairs.nd rfl (Or.inl rfl) (pe_mkE T.oex_NotYet T.ini_NotYet T.tin_NotYet (ok_NotYet___init__ T) (hr.mono (by decide)) T.b_NotYet___init__ pass0 rfl T.g_NotYet (pa_cons (pv 0) (pa_cons (pv 1) pa_nil))))
  (pss_cons (ps_set (i := 3) sc__law_pairs.nd rfl (Or.inl rfl) (pe_mkE T.oex_NotKept T.ini_NotKept T.tin_NotKept (ok_NotKept___init__ T) (hr.mono (by decide)) T.b_NotKept___init__ pass0 rfl T.g_NotKept (pa_cons (pv 1) (pa_cons (pv 0) pa_nil))))
  (pss_cons (ps_set (i := 4) sc__law_pairs.nd rfl (Or.inl rfl) (pe_mkE T.oex_NoRule T.ini_NoRule T.tin_NoRule (ok_NoRule___init__ T) (hr.mono (by decide)) T.b_NoRule___init__ pass0 rfl T.g_NoRule (pa_cons (pv 0) (pa_cons (pv 1) pa_nil))))
  (pss_cons (ps_set (i := 5) sc__law_pairs.nd rfl (Or.inl rfl) (pe_mkE T.oex_TooFar T.ini_TooFar T.tin_TooFar (ok_TooFar___init__ T) (hr.mono (by decide)) T.b_TooFar___init__ pass0 rfl T.g_TooFar (pa_cons (pv 1) (pa_cons (pv 0) pa_nil))))
  (pss_cons (ps_if (PW.pt (pw_or (pt_not (pt_val (pe_call (ok__law_alone T) (hr.mono (by decide)) rfl T.g__law_alone T.k__law_alone T.b__law_alone .nil pass0 (pa_cons (pe_lstK (pa_cons (pv 2) pa_nil)) (pa_cons pe_int pa_nil))))) (pw_or (pt_not (pt_val (pe_call (ok__law_alone T) (hr.mono (by decide)) rfl T.g__law_alone T.k__law_alone T.b__law_alone .nil pass0 (pa_cons (pe_lstK (pa_cons (pv 3) (pa_cons (pv 4) pa_nil))) (pa_cons pe_int pa_nil))))) (pw_or1 (pt_not (pt_val (pe_call (ok__law_alone T) (hr.mono (by decide)) rfl T.g__law_alone T.k__law_alone T.b__law_alone .nil pass0 (pa_cons (pe_lstK (pa_cons (pv 5) pa_nil)) (pa_cons pe_int pa_nil)))))))))
  (pss_one (ps_ret pe_bl))
  pss_nil)
  (pss_cons (ps_if (pt_cmpR (r := rNeD K) (op_neD hr.units) (pe_lstK (pa_cons (pe_fldEK (K := K) rfl (pv 2)) (pa_cons (pe_fldEK (K := K) rfl (pv 2)) (pa_cons (pe_fldEK (K := K) rfl (pv 3)) (pa_cons (pe_fldEK (K := K) rfl (pv 3)) pa_nil))))) (pe_lstK (pa_cons (pv 0) (pa_cons (pv 1) (pa_cons (pv 1) (pa_cons (pv 0) pa_nil))))) (nomark _))
  (pss_one (ps_ret pe_bl))
  pss_nil)
  (pss_one (ps_ret (pe_cmpR (r := rEqD K) (op_eqD hr.units) (pe_lstK (pa_cons (pe_fldEK (K := K) rfl (pv 4)) (pa_cons (pe_fldEK (K := K) rfl (pv 4)) (pa_cons (pe_fldEK (K := K) rfl (pv 5)) (pa_cons (pe_fldEK (K := K) rfl (pv 5)) pa_nil))))) (pe_lstK (pa_cons (pv 0) (pa_cons (pv 1) (pa_cons (pv 1) (pa_cons (pv 0) pa_nil))))) (nomark _)))))))))), ?_⟩
    refine ⟨_, rfl, _, rfl, (by show 2 ≤ 1000; decide), fun a3 ha4 => ⟨a3, _, _, rfl, upd_same, fun d5 H6 h7 h8 hk9 hd10 => ⟨rfl, ?_⟩⟩⟩
    have hd10 := newE_d ha4 hd10
    have hk9 := newE ha4 hk9
    refine ⟨_, rfl, _, rfl, (by show 2 ≤ 1000; decide), fun a11 ha12 => ⟨a11, _, _, rfl, upd_same, fun d13 H14 h15 h16 hk17 hd18 => ⟨rfl, ?_⟩⟩⟩
    have hd18 := newE_d ha12 hd18
    have hk17 := newE ha12 hk17
    refine ⟨_, rfl, _, rfl, (by show 2 ≤ 1000; decide), fun a19 ha20 => ⟨a19, _, _, rfl, upd_same, fun d21 H22 h23 h24 hk25 hd26 => ⟨rfl, ?_⟩⟩⟩
    have hd26 := newE_d ha20 hd26
    have hk25 := newE ha20 hk25
    refine ⟨_, rfl, _, rfl, (by show 2 ≤ 1000; decide), fun a27 ha28 => ⟨a27, _, _, rfl, upd_same, fun d29 H30 h31 h32 hk33 hd34 => ⟨rfl, ?_⟩⟩⟩
    have hd34 := newE_d ha28 hd34
    have hk33 := newE ha28 hk33
    refine ⟨_, rfl, (by show 1 ≤ sizeLine; decide), fun p35 H36 hn37 hp38 hk39 => ?_⟩
    have k40 : Kp [] H6 H22 := hk17.step0 hk25
    have k41 : Kp [] H6 H30 := k40.step0 hk33
    have k42 : Kp [] H6 H36 := k41.step0 hk39
    have f43 : H36 a3 = some (exo a3 (A.e 12) (some d5)) := k42.at0 h7 
    have f44 : H36 d5 = some (exd d5 [("step", u), ("place", v)]) := k42.at0 h8 
    have hx45 : Exs H36 p35 (List.range' 12 1) A.e := ⟨[a3], hp38, (ExIn.cons (.inl ⟨d5, _, f43, f44⟩) ExIn.nil)⟩
    refine ⟨p35, 12, 12, 1, rfl, hx45, (by omega), (by decide), (by decide), fun H46 hk47 => ?_⟩
    refine ⟨_, rfl, ifF rfl ?_⟩
    refine ⟨_, rfl, _, rfl, (by show 2 ≤ sizeLine; decide), fun p48 H49 hn50 hp51 hk52 => ?_⟩
    have k53 : Kp [] H22 H36 := hk33.step0 hk39
    have k54 : Kp [] H22 H46 := k53.step0 hk47
    have k55 : Kp [] H22 H49 := k54.step0 hk52
    have f56 : H49 a19 = some (exo a19 (A.e 16) (some d21)) := k55.at0 h23 
    have f57 : H49 d21 = some (exd d21 [("second", u), ("first", v)]) := k55.at0 h24 
    have k58 : Kp [] H14 H30 := hk25.step0 hk33
    have k59 : Kp [] H14 H36 := k58.step0 hk39
    have k60 : Kp [] H14 H46 := k59.step0 hk47
    have k61 : Kp [] H14 H49 := k60.step0 hk52
    have f62 : H49 a11 = some (exo a11 (A.e 15) (some d13)) := k61.at0 h15 
    have f63 : H49 d13 = some (exd d13 [("second", v), ("first", u)]) := k61.at0 h16 
    have hx64 : Exs H49 p48 (List.range' 15 2) A.e := ⟨[a11, a19], hp51, (ExIn.cons (.inl ⟨d13, _, f62, f63⟩) (ExIn.cons (.inl ⟨d21, _, f56, f57⟩) ExIn.nil))⟩
    refine ⟨p48, 15, 15, 2, rfl, hx64, (by omega), (by decide), (by decide), fun H65 hk66 => ?_⟩
    refine ⟨_, rfl, ifF rfl ?_⟩
    refine ⟨_, rfl, (by show 1 ≤ sizeLine; decide), fun p67 H68 hn69 hp70 hk71 => ?_⟩
    have k72 : Kp [] H30 H46 := hk39.step0 hk47
    have k73 : Kp [] H30 H49 := k72.step0 hk52
    have k74 : Kp [] H30 H65 := k73.step0 hk66
    have k75 : Kp [] H30 H68 := k74.step0 hk71
    have f76 : H68 a27 = some (exo a27 (A.e 18) (some d29)) := k75.at0 h31 
    have f77 : H68 d29 = some (exd d29 [("second", v), ("first", u)]) := k75.at0 h32 
    have hx78 : Exs H68 p67 (List.range' 18 1) A.e := ⟨[a27], hp70, (ExIn.cons (.inl ⟨d29, _, f76, f77⟩) ExIn.nil)⟩
    refine ⟨p67, 18, 18, 1, rfl, hx78, (by omega), (by decide), (by decide), fun H79 hk80 => ?_⟩
    refine ⟨_, rfl, ifF rfl ?_⟩
    have k81 : Kp [] H36 H49 := hk47.step0 hk52
    have k82 : Kp [] H36 H65 := k81.step0 hk66
    have k83 : Kp [] H36 H68 := k82.step0 hk71
    have k84 : Kp [] H36 H79 := k83.step0 hk80
    have f85 : H79 a3 = some (exo a3 (A.e 12) (some d5)) := k84.at0 f43 
    have f86 : H79 d5 = some (exd d5 [("step", u), ("place", v)]) := k84.at0 f44 
    have k87 : Kp [] H49 H68 := hk66.step0 hk71
    have k88 : Kp [] H49 H79 := k87.step0 hk80
    have f89 : H79 a11 = some (exo a11 (A.e 15) (some d13)) := k88.at0 f62 
    have f90 : H79 d13 = some (exd d13 [("second", v), ("first", u)]) := k88.at0 f63 
    refine ⟨_, rfl, _, _, _, _, v, rfl, f85, f86, T.xf_NotYet, T.nf_NotYet_place, (lk2b (by decide +kernel)), _, rfl, _, _, _, _, u, rfl, f85, f86, T.xf_NotYet, T.nf_NotYet_step, lk2a, _, rfl, _, _, _, _, u, rfl, f89, f90, T.xf_NotKept, T.nf_NotKept_first, (lk2b (by decide +kernel)), _, rfl, _, _, _, _, v, rfl, f89, f90, T.xf_NotKept, T.nf_NotKept_second, lk2a, (by show 4 ≤ sizeLine; decide), fun p91 H92 hn93 hp94 hk95 => ?_⟩
    refine ⟨_, rfl, _, rfl, _, rfl, _, rfl, (by show 4 ≤ sizeLine; decide), fun p96 H97 hn98 hp99 hk100 => ?_⟩
    have k101 : Kp [] H H14 := hk9.step0 hk17
    have k102 : Kp [] H H22 := k101.step0 hk25
    have k103 : Kp [] H H30 := k102.step0 hk33
    have k104 : Kp [] H H36 := k103.step0 hk39
    have k105 : Kp [] H H46 := k104.step0 hk47
    have k106 : Kp [] H H49 := k105.step0 hk52
    have k107 : Kp [] H H65 := k106.step0 hk66
    have k108 : Kp [] H H68 := k107.step0 hk71
    have k109 : Kp [] H H79 := k108.step0 hk80
    have k110 : Kp [] H H92 := k109.step0 hk95
    have k111 : Kp [] H H97 := k110.step0 hk100
    have f112 : Dat K H97 v d1 := Dat.kp0 g1 k111
    have f113 : Dat K H97 u d2 := Dat.kp0 g2 k111
    have f114 : H97 p91 = some (.lst [v, u, u, v]) := hk100.at0 hp94 
    refine ⟨_, _, .lst (SqL.of f114) (.cons (f112.1) (.cons (f113.1) (.cons (f113.1) (.cons (f112.1) .nil)))), .lst (SqL.of hp99) (.cons (f112.1) (.cons (f113.1) (.cons (f113.1) (.cons (f112.1) .nil)))), (shape_l (show DatL 4 K H97 [v, u, u, v] [d1, d2, d2, d1] from ⟨f112, ⟨f113, ⟨f113, ⟨f112, True.intro⟩⟩⟩⟩)), (shape_l (show DatL 4 K H97 [v, u, u, v] [d1, d2, d2, d1] from ⟨f112, ⟨f113, ⟨f113, ⟨f112, True.intro⟩⟩⟩⟩)), _, rfl, ifF (by rw [eqv_same (show DatL 4 K H97 [v, u, u, v] [d1, d2, d2, d1] from ⟨f112, ⟨f113, ⟨f113, ⟨f112, True.intro⟩⟩⟩⟩)]; rfl) ?_⟩
    have k115 : Kp [] H49 H92 := k88.step0 hk95
    have k116 : Kp [] H49 H97 := k115.step0 hk100
    have f117 : H97 a19 = some (exo a19 (A.e 16) (some d21)) := k116.at0 f56 
    have f118 : H97 d21 = some (exd d21 [("second", u), ("first", v)]) := k116.at0 f57 
    have k119 : Kp [] H68 H92 := hk80.step0 hk95
    have k120 : Kp [] H68 H97 := k119.step0 hk100
    have f121 : H97 a27 = some (exo a27 (A.e 18) (some d29)) := k120.at0 f76 
    have f122 : H97 d29 = some (exd d29 [("second", v), ("first", u)]) := k120.at0 f77 
    refine ⟨_, rfl, _, _, _, _, v, rfl, f117, f118, T.xf_NoRule, T.nf_NoRule_first, (lk2b (by decide +kernel)), _, rfl, _, _, _, _, u, rfl, f117, f118, T.xf_NoRule, T.nf_NoRule_second, lk2a, _, rfl, _, _, _, _, u, rfl, f121, f122, T.xf_TooFar, T.nf_TooFar_first, (lk2b (by decide +kernel)), _, rfl, _, _, _, _, v, rfl, f121, f122, T.xf_TooFar, T.nf_TooFar_second, lk2a, (by show 4 ≤ sizeLine; decide), fun p123 H124 hn125 hp126 hk127 => ?_⟩
    refine ⟨_, rfl, _, rfl, _, rfl, _, rfl, (by show 4 ≤ sizeLine; decide), fun p128 H129 hn130 hp131 hk132 => ?_⟩
    have k133 : Kp [] H97 H129 := hk127.step0 hk132
    have f134 : Dat K H129 v d1 := Dat.kp0 f112 k133
    have f135 : Dat K H129 u d2 := Dat.kp0 f113 k133
    have f136 : H129 p123 = some (.lst [v, u, u, v]) := hk132.at0 hp126 
    refine ⟨_, _, .lst (SqL.of f136) (.cons (f134.1) (.cons (f135.1) (.cons (f135.1) (.cons (f134.1) .nil)))), .lst (SqL.of hp131) (.cons (f134.1) (.cons (f135.1) (.cons (f135.1) (.cons (f134.1) .nil)))), (shape_l (show DatL 4 K H129 [v, u, u, v] [d1, d2, d2, d1] from ⟨f134, ⟨f135, ⟨f135, ⟨f134, True.intro⟩⟩⟩⟩)), (shape_l (show DatL 4 K H129 [v, u, u, v] [d1, d2, d2, d1] from ⟨f134, ⟨f135, ⟨f135, ⟨f134, True.intro⟩⟩⟩⟩)), ?_⟩
    rw [eqv_same (show DatL 4 K H129 [v, u, u, v] [d1, d2, d2, d1] from ⟨f134, ⟨f135, ⟨f135, ⟨f134, True.intro⟩⟩⟩⟩)]
    have k137 : Kp [] H H124 := k111.step0 hk127
    have k138 : Kp [] H H129 := k137.step0 hk132
    exact q H129 k138
theorem ok_law (T : Tx K mg A) : FnOk P w K mg base CX0 6 A.f_law A.d_law ps_law (sp_law K A) := by
  refine T.F_law.ok sc_law (fun vs H Q E h => ?_) (fun cdv Ar outer s H vs Q E hr h => ?_)
  · obtain ⟨_, _, rfl, _⟩ := h
    rfl
  · obtain ⟨a, ns, rfl, g1, g2, q⟩ := h
    refine ⟨_, (pss_cons (ps_set (i := 1) sc_law.nd rfl (Or.inl rfl) (pe_call (ok__law_thing T) (hr.mono (by decide)) rfl T.g__law_thing T.k__law_thing T.b__law_thing .nil pass0 (pa_cons (pe_call (ok__law_cell T) (hr.mono (by decide)) rfl T.g__law_cell T.k__law_cell T.b__law_cell .nil pass0 (pa_cons (pv 0) (pa_cons pe_int pa_nil))) pa_nil)))
  (pss_cons (ps_set (i := 2) sc_law.nd rfl (Or.inl rfl) (pe_call (ok__law_thing T) (hr.mono (by decide)) rfl T.g__law_thing T.k__law_thing T.b__law_thing .nil pass0 (pa_cons (pe_call (ok__law_cell T) (hr.mono (by decide)) rfl T.g__law_cell T.k__law_cell T.b__law_cell .nil pass0 (pa_cons (pv 0) (pa_cons pe_int pa_nil))) pa_nil)))
  (pss_cons (ps_set (i := 3) sc_law.nd rfl (Or.inl rfl) (pe_call (ok__law_single T) (hr.mono (by decide)) rfl T.g__law_single T.k__law_single T.b__law_single .nil pass0 (pa_cons (pv 1) (pa_cons (pv 2) pa_nil))))
  (pss_cons (ps_set (i := 4) sc_law.nd rfl (Or.inl rfl) (pe_mkE T.oex_BadNumber T.ini_BadNumber T.tin_BadNumber (ok_BadNumber___init__ T) (hr.mono (by decide)) T.b_BadNumber___init__ pass0 rfl T.g_BadNumber (pa_cons (pv 1) pa_nil)))
  (pss_cons (ps_set (i := 5) sc_law.nd rfl (Or.inl rfl) (pe_mkE T.oex_ZeroRing T.ini_ZeroRing T.tin_ZeroRing (ok_ZeroRing___init__ T) (hr.mono (by decide)) T.b_ZeroRing___init__ pass0 rfl T.g_ZeroRing (pa_cons (pe_tupK (pa_cons (pv 1) (pa_cons (pv 2) pa_nil))) pa_nil)))
  (pss_cons (ps_set (i := 6) sc_law.nd rfl (Or.inl rfl) (pe_mkE T.oex_BadItem T.ini_BadItem T.tin_BadItem (ok_BadItem___init__ T) (hr.mono (by decide)) T.b_BadItem___init__ pass0 rfl T.g_BadItem (pa_cons (pv 2) pa_nil)))
  (pss_cons (ps_set (i := 7) sc_law.nd rfl (Or.inl rfl) (pe_mkE T.oex_NoSet T.ini_NoSet T.tin_NoSet (ok_NoSet___init__ T) (hr.mono (by decide)) T.b_NoSet___init__ pass0 rfl T.g_NoSet (pa_cons (pe_tupK (pa_cons (pv 2) (pa_cons (pv 1) pa_nil))) pa_nil)))
  (pss_cons (ps_set (i := 8) sc_law.nd rfl (Or.inl rfl) (pe_mkE T.oex_Barred T.ini_Barred T.tin_Barred (ok_Barred___init__ T) (hr.mono (by decide)) T.b_Barred___init__ pass0 rfl T.g_Barred (pa_cons (pe_tupK (pa_cons (pv 2) (pa_cons (pv 2) (pa_cons (pv 1) pa_nil)))) pa_nil)))
  (pss_cons (ps_set (i := 9) sc_law.nd rfl (Or.inl rfl) (pe_mkE T.oex_TooEarly T.ini_TooEarly T.tin_TooEarly (ok_TooEarly___init__ T) (hr.mono (by decide)) T.b_TooEarly___init__ pass0 rfl T.g_TooEarly (pa_cons (pv 1) pa_nil)))
  (pss_cons (ps_set (i := 10) sc_law.nd rfl (Or.inl rfl) (pe_mkE T.oex_BadLine T.ini_BadLine T.tin_BadLine (ok_BadLine___init__ T) (hr.mono (by decide)) T.b_BadLine___init__ pass0 rfl T.g_BadLine (pa_cons (pv 2) pa_nil)))
  (pss_cons (ps_setLc (i := 11) (own := [("_law_error", 12)]) (g := gName 12) (by rfl) sc_law.nd rfl rfl (sw_true rfl rfl rfl (by decide +kernel)) (pi_list (pv 3)) (blkOk_by (own := [("_law_error", 12)]) (N := N_law) (sc := defScope s_law) (by decide +kernel)) (fun _ _ _ _ _ => (pg_name (i := 12) sc_law.nd rfl (Or.inl rfl))) (fun _ _ _ _ _ => pts_nil) (fun _ _ _ _ _ => (pe_fldEK (K := K) rfl (pv 12))))
  (pss_cons (ps_if (PW.pt (pw_or (pt_not (pt_val (pe_call (ok__law_alone T) (hr.mono (by decide)) rfl T.g__law_alone T.k__law_alone T.b__law_alone .nil pass0 (pa_cons (pv 3) (pa_cons pe_int pa_nil))))) (pw_or1 (pt_cmpR (r := rNeD K) (op_neD hr.units) (pv 11) (pe_lstK (pa_cons (pv 1) (pa_cons (pv 2) (pa_cons (pv 1) (pa_cons (pv 2) (pa_cons (pv 1) (pa_cons (pv 2) (pa_cons (pv 1) (pa_cons (pv 2) (pa_cons (pv 1) pa_nil)))))))))) (nomark _)))))
  (pss_one (ps_ret pe_bl))
  pss_nil)
  (pss_cons (ps_if (PW.pt (pw_or (pt_not (pt_val (pe_call (ok__law_alone T) (hr.mono (by decide)) rfl T.g__law_alone T.k__law_alone T.b__law_alone .nil pass0 (pa_cons (pe_lstK (pa_cons (pv 4) (pa_cons (pv 5) (pa_cons (pv 6) pa_nil)))) (pa_cons pe_int pa_nil))))) (pw_or1 (pt_not (pt_val (pe_call (ok__law_alone T) (hr.mono (by decide)) rfl T.g__law_alone T.k__law_alone T.b__law_alone .nil pass0 (pa_cons (pe_lstK (pa_cons (pv 7) (pa_cons (pv 8) pa_nil))) (pa_cons pe_int pa_nil))))))))
  (pss_one (ps_ret pe_bl))
  pss_nil)
  (pss_cons (ps_if (pt_not (pt_val (pe_call (ok__law_alone T) (hr.mono (by decide)) rfl T.g__law_alone T.k__law_alone T.b__law_alone .nil pass0 (pa_cons (pe_lstK (pa_cons (pv 9) pa_nil)) (pa_cons pe_int pa_nil)))))
  (pss_one (ps_ret pe_bl))
  pss_nil)
  (pss_cons (ps_if (PW.pt (pw_or (pt_not (pt_val (pe_call (ok__law_alone T) (hr.mono (by decide)) rfl T.g__law_alone T.k__law_alone T.b__law_alone .nil pass0 (pa_cons (pe_lstK (pa_cons (pe_mkE0 PySem.F.excBase_ValueError T.ex0_BadGaps T.g_BadGaps T.kp_BadGaps rfl) (pa_cons (pe_mkE0 PySem.F.excBase_ValueError T.ex0_EmptyRow T.g_EmptyRow T.kp_EmptyRow rfl) (pa_cons (pe_mkE0 PySem.F.excBase_ValueError T.ex0_NothingBack T.g_NothingBack T.kp_NothingBack rfl) (pa_cons (pv 10) pa_nil))))) (pa_cons pe_int pa_nil))))) (pw_or1 (pt_not (pt_val (pe_call (ok__law_pairs T) (hr.mono (by decide)) rfl T.g__law_pairs T.k__law_pairs T.b__law_pairs .nil pass0 (pa_cons (pv 1) (pa_cons (pv 2) pa_nil))))))))
  (pss_one (ps_ret pe_bl))
  pss_nil)
  (pss_cons (ps_if (pt_cmpR (r := rNeD K) (op_neD hr.units) (pe_lstK (pa_cons (pe_fldEK (K := K) rfl (pv 4)) (pa_cons (pe_fldEK (K := K) rfl (pv 6)) (pa_cons (pe_fldEK (K := K) rfl (pv 9)) (pa_cons (pe_fldEK (K := K) rfl (pv 10)) pa_nil))))) (pe_lstK (pa_cons (pv 1) (pa_cons (pv 2) (pa_cons (pv 1) (pa_cons (pv 2) pa_nil))))) (nomark _))
  (pss_one (ps_ret pe_bl))
  pss_nil)
  (pss_one (ps_ret (pe_cmpR (r := rEqD K) (op_eqD hr.units) (pe_lstK (pa_cons (pe_fldEK (K := K) rfl (pv 5)) (pa_cons (pe_fldEK (K := K) rfl (pv 7)) (pa_cons (pe_fldEK (K := K) rfl (pv 8)) pa_nil)))) (pe_lstK (pa_cons (pe_tupK (pa_cons (pv 1) (pa_cons (pv 2) pa_nil))) (pa_cons (pe_tupK (pa_cons (pv 2) (pa_cons (pv 1) pa_nil))) (pa_cons (pe_tupK (pa_cons (pv 2) (pa_cons (pv 2) (pa_cons (pv 1) pa_nil)))) pa_nil)))) (nomark _)))))))))))))))))))), ?_⟩
    refine ⟨_, rfl, a, ns, 0, rfl, g1, (by first | omega | assumption | decide | (simp; done) | (simp; omega)), fun x3 => ?_⟩
    refine ⟨x3, rfl, fun v4 d5 H7 hk8 h6 => ?_⟩
    have f9 : SqL K H7 a (ns.map V.int) := SqL.kp0 g1 hk8
    refine ⟨_, rfl, a, ns, 1, rfl, f9, (by first | omega | assumption | decide | (simp; done) | (simp; omega)), fun x10 => ?_⟩
    refine ⟨x10, rfl, fun v11 d12 H14 hk15 h13 => ?_⟩
    have f16 : Dat K H14 v4 d5 := Dat.kp0 h6 hk15
    refine ⟨_, rfl, _, rfl, v4, v11, d5, d12, rfl, f16, h13, fun l17 ps18 H23 hk24 h19 h20 h21 h22 => ?_⟩
    refine ⟨_, rfl, (by show 1 ≤ 1000; decide), fun a25 ha26 => ⟨a25, _, rfl, upd_same, fun d27 H28 h29 h30 hk31 hd32 => ⟨rfl, ?_⟩⟩⟩
    have hd32 := newE_d ha26 hd32
    have hk31 := newE ha26 hk31
    refine ⟨_, rfl, _, rfl, (by show 2 ≤ sizeLine; decide), fun p33 H34 hn35 hp36 hk37 => ?_⟩
    refine ⟨(by show 1 ≤ 1000; decide), fun a38 ha39 => ⟨a38, _, rfl, upd_same, fun d40 H41 h42 h43 hk44 hd45 => ⟨rfl, ?_⟩⟩⟩
    have hd45 := newE_d ha39 hd45
    have hk44 := newE ha39 hk44
    refine ⟨_, rfl, (by show 1 ≤ 1000; decide), fun a46 ha47 => ⟨a46, _, rfl, upd_same, fun d48 H49 h50 h51 hk52 hd53 => ⟨rfl, ?_⟩⟩⟩
    have hd53 := newE_d ha47 hd53
    have hk52 := newE ha47 hk52
    refine ⟨_, rfl, _, rfl, (by show 2 ≤ sizeLine; decide), fun p54 H55 hn56 hp57 hk58 => ?_⟩
    refine ⟨(by show 1 ≤ 1000; decide), fun a59 ha60 => ⟨a59, _, rfl, upd_same, fun d61 H62 h63 h64 hk65 hd66 => ⟨rfl, ?_⟩⟩⟩
    have hd66 := newE_d ha60 hd66
    have hk65 := newE ha60 hk65
    refine ⟨_, rfl, _, rfl, _, rfl, (by show 3 ≤ sizeLine; decide), fun p67 H68 hn69 hp70 hk71 => ?_⟩
    refine ⟨(by show 1 ≤ 1000; decide), fun a72 ha73 => ⟨a72, _, rfl, upd_same, fun d74 H75 h76 h77 hk78 hd79 => ⟨rfl, ?_⟩⟩⟩
    have hd79 := newE_d ha73 hd79
    have hk78 := newE ha73 hk78
    refine ⟨_, rfl, (by show 1 ≤ 1000; decide), fun a80 ha81 => ⟨a80, _, rfl, upd_same, fun d82 H83 h84 h85 hk86 hd87 => ⟨rfl, ?_⟩⟩⟩
    have hd87 := newE_d ha81 hd87
    have hk86 := newE ha81 hk86
    refine ⟨_, rfl, (by show 1 ≤ 1000; decide), fun a88 ha89 => ⟨a88, _, rfl, upd_same, fun d90 H91 h92 h93 hk94 hd95 => ⟨rfl, ?_⟩⟩⟩
    have hd95 := newE_d ha89 hd95
    have hk94 := newE ha89 hk94
    have k96 : Kp [] H23 H34 := hk31.step0 hk37
    have k97 : Kp [] H23 H41 := k96.step0 hk44
    have k98 : Kp [] H23 H49 := k97.step0 hk52
    have k99 : Kp [] H23 H55 := k98.step0 hk58
    have k100 : Kp [] H23 H62 := k99.step0 hk65
    have k101 : Kp [] H23 H68 := k100.step0 hk71
    have k102 : Kp [] H23 H75 := k101.step0 hk78
    have k103 : Kp [] H23 H83 := k102.step0 hk86
    have k104 : Kp [] H23 H91 := k103.step0 hk94
    have f105 : H91 l17 = some (.lst (ps18.map V.ref)) := k104.at0 h20 
    refine ⟨_, rfl, _, rfl, ⟨_, (.inl (.inl f105))⟩, fun D106 hD107 => lc_list (K := K) (a := l17) (xs := (ps18.map V.ref)) (fun i H' => ∃ (vs : List V), H' D106 = some (.lst vs) ∧ Kp [] H91 H' ∧ (vs = ([v4, v11, v4, v11, v4, v11, v4, v11, v4] : List V).take i) ∧ (vs.length ≤ 9)) ?_ ?_ ?_ ?_⟩
    · refine updN (G := fun H' => ∃ (vs : List V), H' D106 = some (.lst vs) ∧ Kp [] H91 H' ∧ (vs = ([v4, v11, v4, v11, v4, v11, v4, v11, v4] : List V).take 0) ∧ (vs.length ≤ 9)) hD107 (fun H108 hp109 hk110 => ?_)
      exact ⟨[], hp109, hk110, rfl, (Nat.zero_le _)⟩
    · rintro i H111 hi ⟨vs116, hd113, k112, h114, h115⟩
      have f117 : H111 l17 = some (.lst (ps18.map V.ref)) := k112.at0 f105 
      exact (.inl (.inl f117))
    · rintro i119 x126 H118 hi120 ⟨vs125, hd122, k121, h123, h124⟩
      obtain ⟨y127, hy128, rfl⟩ := getMap hi120
      have hl129 := lt_of_get hy128
      obtain ⟨y130, hy131, D132, d133, h134, h135, h136, h137⟩ := NmIn.at h22 hy128
      refine ⟨rfl, ?_⟩
      unfold tYes
      refine ifT rfl ?_
      have k138 : Kp [] H23 H118 := k104.step0 k121
      have f139 : H118 y127 = some (exo y127 D132 (some d133)) := k138.at0 h134 
      have f140 : H118 d133 = some (exd d133 [("name", y130)]) := k138.at0 h135 
      refine ⟨_, rfl, _, _, _, _, y130, rfl, f139, f140, h136, h137, lk1, _, hd122, (by show (vs125).length < sizeLine; refine slenlt ?_; first | (simp; done) | omega | (simp; omega) | (subst_vars; simp; omega)), updK (G := fun H' => ∃ (vs : List V), H' D106 = some (.lst vs) ∧ Kp [] H91 H' ∧ (vs = ([v4, v11, v4, v11, v4, v11, v4, v11, v4] : List V).take (i119 + 1)) ∧ (vs.length ≤ 9)) (fun H141 hp142 hk143 => ?_)⟩
      have k144 : Kp [] H91 H141 := k121.step hk143 (fun b hb => by rw [List.mem_singleton.mp hb]; exact .inr hD107)
      exact ⟨(vs125 ++ [y130]), (show H141 D106 = some (.lst _) by first | exact hp142 | (rw [hp142]; simp)), k144, (by rw [List.take_add_one, h123, hy131] <;> rfl), (take_le (names := [v4, v11, v4, v11, v4, v11, v4, v11, v4]) (k := i119 + 1) (by rw [List.take_add_one, h123, hy131] <;> rfl))⟩
    · rintro H145 ⟨vs150, hd147, k146, h148, h149⟩
      try simp only [List.length_map] at *
      have k152 : Kp [] H23 H145 := k104.step0 k146
      have f153 : NmIn K H145 ps18 [v4, v11, v4, v11, v4, v11, v4, v11, v4] := NmIn.kp0 h22 k152
      have hp151 : H145 D106 = some (.lst [v4, v11, v4, v11, v4, v11, v4, v11, v4]) := by rw [hd147, h148, NmIn.full f153]
      have f154 : H145 l17 = some (.lst (ps18.map V.ref)) := k146.at0 f105 
      have f156 : ExIn A.e H145 ps18 (List.range' 0 9) := ExIn.kp0 h21 k152
      refine ⟨_, rfl, ?_⟩
      have hx155 : Exs H145 l17 (List.range' 0 9) A.e := ⟨ps18, f154, f156⟩
      refine ⟨l17, 0, 0, 9, rfl, hx155, (by omega), (by decide), (by decide), fun H157 hk158 => ?_⟩
      refine ⟨_, rfl, ifF rfl ?_⟩
      refine ⟨_, rfl, _, rfl, _, rfl, _, rfl, _, rfl, _, rfl, _, rfl, _, rfl, _, rfl, _, rfl, (by show 9 ≤ sizeLine; decide), fun p159 H160 hn161 hp162 hk163 => ?_⟩
      have k164 : Kp [] H14 H28 := hk24.step0 hk31
      have k165 : Kp [] H14 H34 := k164.step0 hk37
      have k166 : Kp [] H14 H41 := k165.step0 hk44
      have k167 : Kp [] H14 H49 := k166.step0 hk52
      have k168 : Kp [] H14 H55 := k167.step0 hk58
      have k169 : Kp [] H14 H62 := k168.step0 hk65
      have k170 : Kp [] H14 H68 := k169.step0 hk71
      have k171 : Kp [] H14 H75 := k170.step0 hk78
      have k172 : Kp [] H14 H83 := k171.step0 hk86
      have k173 : Kp [] H14 H91 := k172.step0 hk94
      have k174 : Kp [] H14 H145 := k173.step0 k146
      have k175 : Kp [] H14 H157 := k174.step0 hk158
      have k176 : Kp [] H14 H160 := k175.step0 hk163
      have f177 : Dat K H160 v4 d5 := Dat.kp0 f16 k176
      have f178 : Dat K H160 v11 d12 := Dat.kp0 h13 k176
      have k179 : Kp [] H145 H160 := hk158.step0 hk163
      have f180 : H160 D106 = some (.lst [v4, v11, v4, v11, v4, v11, v4, v11, v4]) := k179.at0 hp151 
      refine ⟨_, _, .lst (SqL.of f180) (.cons (f177.1) (.cons (f178.1) (.cons (f177.1) (.cons (f178.1) (.cons (f177.1) (.cons (f178.1) (.cons (f177.1) (.cons (f178.1) (.cons (f177.1) .nil))))))))), .lst (SqL.of hp162) (.cons (f177.1) (.cons (f178.1) (.cons (f177.1) (.cons (f178.1) (.cons (f177.1) (.cons (f178.1) (.cons (f177.1) (.cons (f178.1) (.cons (f177.1) .nil))))))))), (shape_l (show DatL 4 K H160 [v4, v11, v4, v11, v4, v11, v4, v11, v4] [d5, d12, d5, d12, d5, d12, d5, d12, d5] from ⟨f177, ⟨f178, ⟨f177, ⟨f178, ⟨f177, ⟨f178, ⟨f177, ⟨f178, ⟨f177, True.intro⟩⟩⟩⟩⟩⟩⟩⟩⟩)), (shape_l (show DatL 4 K H160 [v4, v11, v4, v11, v4, v11, v4, v11, v4] [d5, d12, d5, d12, d5, d12, d5, d12, d5] from ⟨f177, ⟨f178, ⟨f177, ⟨f178, ⟨f177, ⟨f178, ⟨f177, ⟨f178, ⟨f177, True.intro⟩⟩⟩⟩⟩⟩⟩⟩⟩)), _, rfl, ifF (by rw [eqv_same (show DatL 4 K H160 [v4, v11, v4, v11, v4, v11, v4, v11, v4] [d5, d12, d5, d12, d5, d12, d5, d12, d5] from ⟨f177, ⟨f178, ⟨f177, ⟨f178, ⟨f177, ⟨f178, ⟨f177, ⟨f178, ⟨f177, True.intro⟩⟩⟩⟩⟩⟩⟩⟩⟩)]; rfl) ?_⟩
      refine ⟨_, rfl, _, rfl, _, rfl, (by show 3 ≤ sizeLine; decide), fun p181 H182 hn183 hp184 hk185 => ?_⟩
      have k186 : Kp [] H49 H62 := hk58.step0 hk65
      have k187 : Kp [] H49 H68 := k186.step0 hk71
      have k188 : Kp [] H49 H75 := k187.step0 hk78
      have k189 : Kp [] H49 H83 := k188.step0 hk86
      have k190 : Kp [] H49 H91 := k189.step0 hk94
      have k191 : Kp [] H49 H145 := k190.step0 k146
      have k192 : Kp [] H49 H157 := k191.step0 hk158
      have k193 : Kp [] H49 H160 := k192.step0 hk163
      have k194 : Kp [] H49 H182 := k193.step0 hk185
      have f195 : H182 a46 = some (exo a46 (A.e 11) (some d48)) := k194.at0 h50 
      have f196 : H182 d48 = some (exd d48 [("place", v11)]) := k194.at0 h51 
      have k197 : Kp [] H41 H55 := hk52.step0 hk58
      have k198 : Kp [] H41 H62 := k197.step0 hk65
      have k199 : Kp [] H41 H68 := k198.step0 hk71
      have k200 : Kp [] H41 H75 := k199.step0 hk78
      have k201 : Kp [] H41 H83 := k200.step0 hk86
      have k202 : Kp [] H41 H91 := k201.step0 hk94
      have k203 : Kp [] H41 H145 := k202.step0 k146
      have k204 : Kp [] H41 H157 := k203.step0 hk158
      have k205 : Kp [] H41 H160 := k204.step0 hk163
      have k206 : Kp [] H41 H182 := k205.step0 hk185
      have f207 : H182 a38 = some (exo a38 (A.e 10) (some d40)) := k206.at0 h42 
      have f208 : H182 d40 = some (exd d40 [("members", V.ref p33)]) := k206.at0 h43 
      have k209 : Kp [] H28 H41 := hk37.step0 hk44
      have k210 : Kp [] H28 H49 := k209.step0 hk52
      have k211 : Kp [] H28 H55 := k210.step0 hk58
      have k212 : Kp [] H28 H62 := k211.step0 hk65
      have k213 : Kp [] H28 H68 := k212.step0 hk71
      have k214 : Kp [] H28 H75 := k213.step0 hk78
      have k215 : Kp [] H28 H83 := k214.step0 hk86
      have k216 : Kp [] H28 H91 := k215.step0 hk94
      have k217 : Kp [] H28 H145 := k216.step0 k146
      have k218 : Kp [] H28 H157 := k217.step0 hk158
      have k219 : Kp [] H28 H160 := k218.step0 hk163
      have k220 : Kp [] H28 H182 := k219.step0 hk185
      have f221 : H182 a25 = some (exo a25 (A.e 9) (some d27)) := k220.at0 h29 
      have f222 : H182 d27 = some (exd d27 [("value", v4)]) := k220.at0 h30 
      have hx223 : Exs H182 p181 (List.range' 9 3) A.e := ⟨[a25, a38, a46], hp184, (ExIn.cons (.inl ⟨d27, _, f221, f222⟩) (ExIn.cons (.inl ⟨d40, _, f207, f208⟩) (ExIn.cons (.inl ⟨d48, _, f195, f196⟩) ExIn.nil)))⟩
      refine ⟨p181, 9, 9, 3, rfl, hx223, (by omega), (by decide), (by decide), fun H224 hk225 => ?_⟩
      refine ⟨_, rfl, ifF rfl ?_⟩
      refine ⟨_, rfl, _, rfl, (by show 2 ≤ sizeLine; decide), fun p226 H227 hn228 hp229 hk230 => ?_⟩
      have k231 : Kp [] H75 H91 := hk86.step0 hk94
      have k232 : Kp [] H75 H145 := k231.step0 k146
      have k233 : Kp [] H75 H157 := k232.step0 hk158
      have k234 : Kp [] H75 H160 := k233.step0 hk163
      have k235 : Kp [] H75 H182 := k234.step0 hk185
      have k236 : Kp [] H75 H224 := k235.step0 hk225
      have k237 : Kp [] H75 H227 := k236.step0 hk230
      have f238 : H227 a72 = some (exo a72 (A.e 14) (some d74)) := k237.at0 h76 
      have f239 : H227 d74 = some (exd d74 [("pieces", V.ref p67)]) := k237.at0 h77 
      have k240 : Kp [] H62 H75 := hk71.step0 hk78
      have k241 : Kp [] H62 H83 := k240.step0 hk86
      have k242 : Kp [] H62 H91 := k241.step0 hk94
      have k243 : Kp [] H62 H145 := k242.step0 k146
      have k244 : Kp [] H62 H157 := k243.step0 hk158
      have k245 : Kp [] H62 H160 := k244.step0 hk163
      have k246 : Kp [] H62 H182 := k245.step0 hk185
      have k247 : Kp [] H62 H224 := k246.step0 hk225
      have k248 : Kp [] H62 H227 := k247.step0 hk230
      have f249 : H227 a59 = some (exo a59 (A.e 13) (some d61)) := k248.at0 h63 
      have f250 : H227 d61 = some (exd d61 [("members", V.ref p54)]) := k248.at0 h64 
      have hx251 : Exs H227 p226 (List.range' 13 2) A.e := ⟨[a59, a72], hp229, (ExIn.cons (.inl ⟨d61, _, f249, f250⟩) (ExIn.cons (.inl ⟨d74, _, f238, f239⟩) ExIn.nil))⟩
      refine ⟨p226, 13, 13, 2, rfl, hx251, (by omega), (by decide), (by decide), fun H252 hk253 => ?_⟩
      refine ⟨_, rfl, ifF rfl ?_⟩
      refine ⟨_, rfl, (by show 1 ≤ sizeLine; decide), fun p254 H255 hn256 hp257 hk258 => ?_⟩
      have k259 : Kp [] H83 H145 := hk94.step0 k146
      have k260 : Kp [] H83 H157 := k259.step0 hk158
      have k261 : Kp [] H83 H160 := k260.step0 hk163
      have k262 : Kp [] H83 H182 := k261.step0 hk185
      have k263 : Kp [] H83 H224 := k262.step0 hk225
      have k264 : Kp [] H83 H227 := k263.step0 hk230
      have k265 : Kp [] H83 H252 := k264.step0 hk253
      have k266 : Kp [] H83 H255 := k265.step0 hk258
      have f267 : H255 a80 = some (exo a80 (A.e 17) (some d82)) := k266.at0 h84 
      have f268 : H255 d82 = some (exd d82 [("place", v4)]) := k266.at0 h85 
      have hx269 : Exs H255 p254 (List.range' 17 1) A.e := ⟨[a80], hp257, (ExIn.cons (.inl ⟨d82, _, f267, f268⟩) ExIn.nil)⟩
      refine ⟨p254, 17, 17, 1, rfl, hx269, (by omega), (by decide), (by decide), fun H270 hk271 => ?_⟩
      refine ⟨_, rfl, ifF rfl ?_⟩
      refine fun a272 H273 hn274 hp275 hk276 => ?_
      refine fun a277 H278 hn279 hp280 hk281 => ?_
      refine fun a282 H283 hn284 hp285 hk286 => ?_
      refine ⟨_, rfl, (by show 4 ≤ sizeLine; decide), fun p287 H288 hn289 hp290 hk291 => ?_⟩
      have k292 : Kp [] H91 H157 := k146.step0 hk158
      have k293 : Kp [] H91 H160 := k292.step0 hk163
      have k294 : Kp [] H91 H182 := k293.step0 hk185
      have k295 : Kp [] H91 H224 := k294.step0 hk225
      have k296 : Kp [] H91 H227 := k295.step0 hk230
      have k297 : Kp [] H91 H252 := k296.step0 hk253
      have k298 : Kp [] H91 H255 := k297.step0 hk258
      have k299 : Kp [] H91 H270 := k298.step0 hk271
      have k300 : Kp [] H91 H273 := k299.step0 hk276
      have k301 : Kp [] H91 H278 := k300.step0 hk281
      have k302 : Kp [] H91 H283 := k301.step0 hk286
      have k303 : Kp [] H91 H288 := k302.step0 hk291
      have f304 : H288 a88 = some (exo a88 (A.e 22) (some d90)) := k303.at0 h92 
      have f305 : H288 d90 = some (exd d90 [("line", v11)]) := k303.at0 h93 
      have f306 : H288 a282 = some (ExO (.ref (A.e 21)) a282) := hk291.at0 hp285 
      have k307 : Kp [] H278 H288 := hk286.step0 hk291
      have f308 : H288 a277 = some (ExO (.ref (A.e 20)) a277) := k307.at0 hp280 
      have k309 : Kp [] H273 H283 := hk281.step0 hk286
      have k310 : Kp [] H273 H288 := k309.step0 hk291
      have f311 : H288 a272 = some (ExO (.ref (A.e 19)) a272) := k310.at0 hp275 
      have hx312 : Exs H288 p287 (List.range' 19 4) A.e := ⟨[a272, a277, a282, a88], hp290, (ExIn.cons (.inr f311) (ExIn.cons (.inr f308) (ExIn.cons (.inr f306) (ExIn.cons (.inl ⟨d90, _, f304, f305⟩) ExIn.nil))))⟩
      refine ⟨p287, 19, 19, 4, rfl, hx312, (by omega), (by decide), (by decide), fun H313 hk314 => ?_⟩
      refine ⟨_, rfl, ifF rfl ?_⟩
      have k315 : Kp [] H160 H224 := hk185.step0 hk225
      have k316 : Kp [] H160 H227 := k315.step0 hk230
      have k317 : Kp [] H160 H252 := k316.step0 hk253
      have k318 : Kp [] H160 H255 := k317.step0 hk258
      have k319 : Kp [] H160 H270 := k318.step0 hk271
      have k320 : Kp [] H160 H273 := k319.step0 hk276
      have k321 : Kp [] H160 H278 := k320.step0 hk281
      have k322 : Kp [] H160 H283 := k321.step0 hk286
      have k323 : Kp [] H160 H288 := k322.step0 hk291
      have k324 : Kp [] H160 H313 := k323.step0 hk314
      have f325 : Dat K H313 v4 d5 := Dat.kp0 f177 k324
      have f326 : Dat K H313 v11 d12 := Dat.kp0 f178 k324
      refine ⟨_, rfl, _, rfl, v4, v11, d5, d12, rfl, f325, f326, fun H327 hk328 => ?_⟩
      refine ⟨_, rfl, ifF rfl ?_⟩
      have k329 : Kp [] H182 H227 := hk225.step0 hk230
      have k330 : Kp [] H182 H252 := k329.step0 hk253
      have k331 : Kp [] H182 H255 := k330.step0 hk258
      have k332 : Kp [] H182 H270 := k331.step0 hk271
      have k333 : Kp [] H182 H273 := k332.step0 hk276
      have k334 : Kp [] H182 H278 := k333.step0 hk281
      have k335 : Kp [] H182 H283 := k334.step0 hk286
      have k336 : Kp [] H182 H288 := k335.step0 hk291
      have k337 : Kp [] H182 H313 := k336.step0 hk314
      have k338 : Kp [] H182 H327 := k337.step0 hk328
      have f339 : H327 a25 = some (exo a25 (A.e 9) (some d27)) := k338.at0 f221 
      have f340 : H327 d27 = some (exd d27 [("value", v4)]) := k338.at0 f222 
      have f341 : H327 a46 = some (exo a46 (A.e 11) (some d48)) := k338.at0 f195 
      have f342 : H327 d48 = some (exd d48 [("place", v11)]) := k338.at0 f196 
      have k343 : Kp [] H255 H273 := hk271.step0 hk276
      have k344 : Kp [] H255 H278 := k343.step0 hk281
      have k345 : Kp [] H255 H283 := k344.step0 hk286
      have k346 : Kp [] H255 H288 := k345.step0 hk291
      have k347 : Kp [] H255 H313 := k346.step0 hk314
      have k348 : Kp [] H255 H327 := k347.step0 hk328
      have f349 : H327 a80 = some (exo a80 (A.e 17) (some d82)) := k348.at0 f267 
      have f350 : H327 d82 = some (exd d82 [("place", v4)]) := k348.at0 f268 
      have k351 : Kp [] H288 H327 := hk314.step0 hk328
      have f352 : H327 a88 = some (exo a88 (A.e 22) (some d90)) := k351.at0 f304 
      have f353 : H327 d90 = some (exd d90 [("line", v11)]) := k351.at0 f305 
      refine ⟨_, rfl, _, _, _, _, v4, rfl, f339, f340, T.xf_BadNumber, T.nf_BadNumber_value, lk1, _, rfl, _, _, _, _, v11, rfl, f341, f342, T.xf_BadItem, T.nf_BadItem_place, lk1, _, rfl, _, _, _, _, v4, rfl, f349, f350, T.xf_TooEarly, T.nf_TooEarly_place, lk1, _, rfl, _, _, _, _, v11, rfl, f352, f353, T.xf_BadLine, T.nf_BadLine_line, lk1, (by show 4 ≤ sizeLine; decide), fun p354 H355 hn356 hp357 hk358 => ?_⟩
      refine ⟨_, rfl, _, rfl, _, rfl, _, rfl, (by show 4 ≤ sizeLine; decide), fun p359 H360 hn361 hp362 hk363 => ?_⟩
      have k364 : Kp [] H313 H355 := hk328.step0 hk358
      have k365 : Kp [] H313 H360 := k364.step0 hk363
      have f366 : Dat K H360 v4 d5 := Dat.kp0 f325 k365
      have f367 : Dat K H360 v11 d12 := Dat.kp0 f326 k365
      have f368 : H360 p354 = some (.lst [v4, v11, v4, v11]) := hk363.at0 hp357 
      refine ⟨_, _, .lst (SqL.of f368) (.cons (f366.1) (.cons (f367.1) (.cons (f366.1) (.cons (f367.1) .nil)))), .lst (SqL.of hp362) (.cons (f366.1) (.cons (f367.1) (.cons (f366.1) (.cons (f367.1) .nil)))), (shape_l (show DatL 4 K H360 [v4, v11, v4, v11] [d5, d12, d5, d12] from ⟨f366, ⟨f367, ⟨f366, ⟨f367, True.intro⟩⟩⟩⟩)), (shape_l (show DatL 4 K H360 [v4, v11, v4, v11] [d5, d12, d5, d12] from ⟨f366, ⟨f367, ⟨f366, ⟨f367, True.intro⟩⟩⟩⟩)), _, rfl, ifF (by rw [eqv_same (show DatL 4 K H360 [v4, v11, v4, v11] [d5, d12, d5, d12] from ⟨f366, ⟨f367, ⟨f366, ⟨f367, True.intro⟩⟩⟩⟩)]; rfl) ?_⟩
      have k369 : Kp [] H182 H355 := k338.step0 hk358
      have k370 : Kp [] H182 H360 := k369.step0 hk363
      have f371 : H360 a38 = some (exo a38 (A.e 10) (some d40)) := k370.at0 f207 
      have f372 : H360 d40 = some (exd d40 [("members", V.ref p33)]) := k370.at0 f208 
      have k373 : Kp [] H227 H255 := hk253.step0 hk258
      have k374 : Kp [] H227 H270 := k373.step0 hk271
      have k375 : Kp [] H227 H273 := k374.step0 hk276
      have k376 : Kp [] H227 H278 := k375.step0 hk281
      have k377 : Kp [] H227 H283 := k376.step0 hk286
      have k378 : Kp [] H227 H288 := k377.step0 hk291
      have k379 : Kp [] H227 H313 := k378.step0 hk314
      have k380 : Kp [] H227 H327 := k379.step0 hk328
      have k381 : Kp [] H227 H355 := k380.step0 hk358
      have k382 : Kp [] H227 H360 := k381.step0 hk363
      have f383 : H360 a59 = some (exo a59 (A.e 13) (some d61)) := k382.at0 f249 
      have f384 : H360 d61 = some (exd d61 [("members", V.ref p54)]) := k382.at0 f250 
      have f385 : H360 a72 = some (exo a72 (A.e 14) (some d74)) := k382.at0 f238 
      have f386 : H360 d74 = some (exd d74 [("pieces", V.ref p67)]) := k382.at0 f239 
      refine ⟨_, rfl, _, _, _, _, V.ref p33, rfl, f371, f372, T.xf_ZeroRing, T.nf_ZeroRing_members, lk1, _, rfl, _, _, _, _, V.ref p54, rfl, f383, f384, T.xf_NoSet, T.nf_NoSet_members, lk1, _, rfl, _, _, _, _, V.ref p67, rfl, f385, f386, T.xf_Barred, T.nf_Barred_pieces, lk1, (by show 3 ≤ sizeLine; decide), fun p387 H388 hn389 hp390 hk391 => ?_⟩
      refine ⟨_, rfl, _, rfl, (by show 2 ≤ sizeLine; decide), fun p392 H393 hn394 hp395 hk396 => ?_⟩
      refine ⟨_, rfl, _, rfl, (by show 2 ≤ sizeLine; decide), fun p397 H398 hn399 hp400 hk401 => ?_⟩
      refine ⟨_, rfl, _, rfl, _, rfl, (by show 3 ≤ sizeLine; decide), fun p402 H403 hn404 hp405 hk406 => ?_⟩
      refine ⟨(by show 3 ≤ sizeLine; decide), fun p407 H408 hn409 hp410 hk411 => ?_⟩
      have k412 : Kp [] H360 H393 := hk391.step0 hk396
      have k413 : Kp [] H360 H398 := k412.step0 hk401
      have k414 : Kp [] H360 H403 := k413.step0 hk406
      have k415 : Kp [] H360 H408 := k414.step0 hk411
      have f416 : Dat K H408 v4 d5 := Dat.kp0 f366 k415
      have f417 : Dat K H408 v11 d12 := Dat.kp0 f367 k415
      have k418 : Kp [] H34 H49 := hk44.step0 hk52
      have k419 : Kp [] H34 H55 := k418.step0 hk58
      have k420 : Kp [] H34 H62 := k419.step0 hk65
      have k421 : Kp [] H34 H68 := k420.step0 hk71
      have k422 : Kp [] H34 H75 := k421.step0 hk78
      have k423 : Kp [] H34 H83 := k422.step0 hk86
      have k424 : Kp [] H34 H91 := k423.step0 hk94
      have k425 : Kp [] H34 H145 := k424.step0 k146
      have k426 : Kp [] H34 H157 := k425.step0 hk158
      have k427 : Kp [] H34 H160 := k426.step0 hk163
      have k428 : Kp [] H34 H182 := k427.step0 hk185
      have k429 : Kp [] H34 H224 := k428.step0 hk225
      have k430 : Kp [] H34 H227 := k429.step0 hk230
      have k431 : Kp [] H34 H252 := k430.step0 hk253
      have k432 : Kp [] H34 H255 := k431.step0 hk258
      have k433 : Kp [] H34 H270 := k432.step0 hk271
      have k434 : Kp [] H34 H273 := k433.step0 hk276
      have k435 : Kp [] H34 H278 := k434.step0 hk281
      have k436 : Kp [] H34 H283 := k435.step0 hk286
      have k437 : Kp [] H34 H288 := k436.step0 hk291
      have k438 : Kp [] H34 H313 := k437.step0 hk314
      have k439 : Kp [] H34 H327 := k438.step0 hk328
      have k440 : Kp [] H34 H355 := k439.step0 hk358
      have k441 : Kp [] H34 H360 := k440.step0 hk363
      have k442 : Kp [] H34 H388 := k441.step0 hk391
      have k443 : Kp [] H34 H393 := k442.step0 hk396
      have k444 : Kp [] H34 H398 := k443.step0 hk401
      have k445 : Kp [] H34 H403 := k444.step0 hk406
      have k446 : Kp [] H34 H408 := k445.step0 hk411
      have f447 : H408 p33 = some (.tup [v4, v11]) := k446.at0 hp36 
      have k448 : Kp [] H55 H68 := hk65.step0 hk71
      have k449 : Kp [] H55 H75 := k448.step0 hk78
      have k450 : Kp [] H55 H83 := k449.step0 hk86
      have k451 : Kp [] H55 H91 := k450.step0 hk94
      have k452 : Kp [] H55 H145 := k451.step0 k146
      have k453 : Kp [] H55 H157 := k452.step0 hk158
      have k454 : Kp [] H55 H160 := k453.step0 hk163
      have k455 : Kp [] H55 H182 := k454.step0 hk185
      have k456 : Kp [] H55 H224 := k455.step0 hk225
      have k457 : Kp [] H55 H227 := k456.step0 hk230
      have k458 : Kp [] H55 H252 := k457.step0 hk253
      have k459 : Kp [] H55 H255 := k458.step0 hk258
      have k460 : Kp [] H55 H270 := k459.step0 hk271
      have k461 : Kp [] H55 H273 := k460.step0 hk276
      have k462 : Kp [] H55 H278 := k461.step0 hk281
      have k463 : Kp [] H55 H283 := k462.step0 hk286
      have k464 : Kp [] H55 H288 := k463.step0 hk291
      have k465 : Kp [] H55 H313 := k464.step0 hk314
      have k466 : Kp [] H55 H327 := k465.step0 hk328
      have k467 : Kp [] H55 H355 := k466.step0 hk358
      have k468 : Kp [] H55 H360 := k467.step0 hk363
      have k469 : Kp [] H55 H388 := k468.step0 hk391
      have k470 : Kp [] H55 H393 := k469.step0 hk396
      have k471 : Kp [] H55 H398 := k470.step0 hk401
      have k472 : Kp [] H55 H403 := k471.step0 hk406
      have k473 : Kp [] H55 H408 := k472.step0 hk411
      have f474 : H408 p54 = some (.tup [v11, v4]) := k473.at0 hp57 
      have k475 : Kp [] H68 H83 := hk78.step0 hk86
      have k476 : Kp [] H68 H91 := k475.step0 hk94
      have k477 : Kp [] H68 H145 := k476.step0 k146
      have k478 : Kp [] H68 H157 := k477.step0 hk158
      have k479 : Kp [] H68 H160 := k478.step0 hk163
      have k480 : Kp [] H68 H182 := k479.step0 hk185
      have k481 : Kp [] H68 H224 := k480.step0 hk225
      have k482 : Kp [] H68 H227 := k481.step0 hk230
      have k483 : Kp [] H68 H252 := k482.step0 hk253
      have k484 : Kp [] H68 H255 := k483.step0 hk258
      have k485 : Kp [] H68 H270 := k484.step0 hk271
      have k486 : Kp [] H68 H273 := k485.step0 hk276
      have k487 : Kp [] H68 H278 := k486.step0 hk281
      have k488 : Kp [] H68 H283 := k487.step0 hk286
      have k489 : Kp [] H68 H288 := k488.step0 hk291
      have k490 : Kp [] H68 H313 := k489.step0 hk314
      have k491 : Kp [] H68 H327 := k490.step0 hk328
      have k492 : Kp [] H68 H355 := k491.step0 hk358
      have k493 : Kp [] H68 H360 := k492.step0 hk363
      have k494 : Kp [] H68 H388 := k493.step0 hk391
      have k495 : Kp [] H68 H393 := k494.step0 hk396
      have k496 : Kp [] H68 H398 := k495.step0 hk401
      have k497 : Kp [] H68 H403 := k496.step0 hk406
      have k498 : Kp [] H68 H408 := k497.step0 hk411
      have f499 : H408 p67 = some (.tup [v11, v11, v4]) := k498.at0 hp70 
      have k500 : Kp [] H388 H398 := hk396.step0 hk401
      have k501 : Kp [] H388 H403 := k500.step0 hk406
      have k502 : Kp [] H388 H408 := k501.step0 hk411
      have f503 : H408 p387 = some (.lst [V.ref p33, V.ref p54, V.ref p67]) := k502.at0 hp390 
      have k504 : Kp [] H393 H403 := hk401.step0 hk406
      have k505 : Kp [] H393 H408 := k504.step0 hk411
      have f506 : H408 p392 = some (.tup [v4, v11]) := k505.at0 hp395 
      have k507 : Kp [] H398 H408 := hk406.step0 hk411
      have f508 : H408 p397 = some (.tup [v11, v4]) := k507.at0 hp400 
      have f509 : H408 p402 = some (.tup [v11, v11, v4]) := hk411.at0 hp405 
      refine ⟨_, _, .lst (SqL.of f503) (.cons (.tup (SqT.of f447) (.cons (f416.1) (.cons (f417.1) .nil))) (.cons (.tup (SqT.of f474) (.cons (f417.1) (.cons (f416.1) .nil))) (.cons (.tup (SqT.of f499) (.cons (f417.1) (.cons (f417.1) (.cons (f416.1) .nil)))) .nil))), .lst (SqL.of hp410) (.cons (.tup (SqT.of f506) (.cons (f416.1) (.cons (f417.1) .nil))) (.cons (.tup (SqT.of f508) (.cons (f417.1) (.cons (f416.1) .nil))) (.cons (.tup (SqT.of f509) (.cons (f417.1) (.cons (f417.1) (.cons (f416.1) .nil)))) .nil))), (shape_l (show DatL 5 K H408 [V.ref p33, V.ref p54, V.ref p67] [(.tuple [d5, d12]), (.tuple [d12, d5]), (.tuple [d12, d12, d5])] from ⟨(dat_tup f447 (show DatL 4 K H408 [v4, v11] [d5, d12] from ⟨f416, ⟨f417, True.intro⟩⟩)), ⟨(dat_tup f474 (show DatL 4 K H408 [v11, v4] [d12, d5] from ⟨f417, ⟨f416, True.intro⟩⟩)), ⟨(dat_tup f499 (show DatL 4 K H408 [v11, v11, v4] [d12, d12, d5] from ⟨f417, ⟨f417, ⟨f416, True.intro⟩⟩⟩)), True.intro⟩⟩⟩)), (shape_l (show DatL 5 K H408 [V.ref p392, V.ref p397, V.ref p402] [(.tuple [d5, d12]), (.tuple [d12, d5]), (.tuple [d12, d12, d5])] from ⟨(dat_tup f506 (show DatL 4 K H408 [v4, v11] [d5, d12] from ⟨f416, ⟨f417, True.intro⟩⟩)), ⟨(dat_tup f508 (show DatL 4 K H408 [v11, v4] [d12, d5] from ⟨f417, ⟨f416, True.intro⟩⟩)), ⟨(dat_tup f509 (show DatL 4 K H408 [v11, v11, v4] [d12, d12, d5] from ⟨f417, ⟨f417, ⟨f416, True.intro⟩⟩⟩)), True.intro⟩⟩⟩)), ?_⟩
      rw [eqv_same (show DatL 5 K H408 [V.ref p33, V.ref p54, V.ref p67] [(.tuple [d5, d12]), (.tuple [d12, d5]), (.tuple [d12, d12, d5])] from ⟨(dat_tup f447 (show DatL 4 K H408 [v4, v11] [d5, d12] from ⟨f416, ⟨f417, True.intro⟩⟩)), ⟨(dat_tup f474 (show DatL 4 K H408 [v11, v4] [d12, d5] from ⟨f417, ⟨f416, True.intro⟩⟩)), ⟨(dat_tup f499 (show DatL 4 K H408 [v11, v11, v4] [d12, d12, d5] from ⟨f417, ⟨f417, ⟨f416, True.intro⟩⟩⟩)), True.intro⟩⟩⟩)]
      have k510 : Kp [] H H14 := hk8.step0 hk15
      have k511 : Kp [] H H23 := k510.step0 hk24
      have k512 : Kp [] H H28 := k511.step0 hk31
      have k513 : Kp [] H H34 := k512.step0 hk37
      have k514 : Kp [] H H41 := k513.step0 hk44
      have k515 : Kp [] H H49 := k514.step0 hk52
      have k516 : Kp [] H H55 := k515.step0 hk58
      have k517 : Kp [] H H62 := k516.step0 hk65
      have k518 : Kp [] H H68 := k517.step0 hk71
      have k519 : Kp [] H H75 := k518.step0 hk78
      have k520 : Kp [] H H83 := k519.step0 hk86
      have k521 : Kp [] H H91 := k520.step0 hk94
      have k522 : Kp [] H H145 := k521.step0 k146
      have k523 : Kp [] H H157 := k522.step0 hk158
      have k524 : Kp [] H H160 := k523.step0 hk163
      have k525 : Kp [] H H182 := k524.step0 hk185
      have k526 : Kp [] H H224 := k525.step0 hk225
      have k527 : Kp [] H H227 := k526.step0 hk230
      have k528 : Kp [] H H252 := k527.step0 hk253
      have k529 : Kp [] H H255 := k528.step0 hk258
      have k530 : Kp [] H H270 := k529.step0 hk271
      have k531 : Kp [] H H273 := k530.step0 hk276
      have k532 : Kp [] H H278 := k531.step0 hk281
      have k533 : Kp [] H H283 := k532.step0 hk286
      have k534 : Kp [] H H288 := k533.step0 hk291
      have k535 : Kp [] H H313 := k534.step0 hk314
      have k536 : Kp [] H H327 := k535.step0 hk328
      have k537 : Kp [] H H355 := k536.step0 hk358
      have k538 : Kp [] H H360 := k537.step0 hk363
      have k539 : Kp [] H H388 := k538.step0 hk391
      have k540 : Kp [] H H393 := k539.step0 hk396
      have k541 : Kp [] H H398 := k540.step0 hk401
      have k542 : Kp [] H H403 := k541.step0 hk406
      have k543 : Kp [] H H408 := k542.step0 hk411
      exact q H408 k543
end
end Lk
set_option Elab.async false
set_option linter.all false
set_option maxRecDepth 100000
set_option maxHeartbeats 8000000
namespace Lk
open PySem L2
theorem all_mk {P : Program} {w : World} {K : PySem.W.Frag} {h : Heap} {mg : Str → Option Value} {fa : Addr} (X : K.In h) (G : h.Ns mainGlobals mg) (hfa : mg "law" = some (.ref fa))
    {f__law_cell f__law_thing f__law_marks f__law_alone f__law_single f__law_pairs f_law C_BadName C_NameTaken C_NoStep C_NoFile C_NoReader C_NoRow C_Clash C_SameStep C_SameFile C_BadNumber C_ZeroRing C_BadItem C_NotYet C_NoSet C_Barred C_NotKept C_NoRule C_TooEarly C_TooFar C_BadGaps C_EmptyRow C_NothingBack C_BadLine f_BadName___init__ f_NameTaken___init__ f_NoStep___init__ f_NoFile___init__ f_NoReader___init__ f_NoRow___init__ f_Clash___init__ f_SameStep___init__ f_SameFile___init__ f_BadNumber___init__ f_ZeroRing___init__ f_BadItem___init__ f_NotYet___init__ f_NoSet___init__ f_Barred___init__ f_NotKept___init__ f_NoRule___init__ f_TooEarly___init__ f_TooFar___init__ f_BadLine___init__ L : Addr}
    {od__law_cell an__law_cell : Option Addr}
    {sl__law_cell : Array (Option Value)}
    {oc__law_cell kV__law_cell dc__law_cell pm__law_cell cd__law_cell ct__law_cell : Value}
    {od__law_thing an__law_thing : Option Addr}
    {sl__law_thing : Array (Option Value)}
    {oc__law_thing kV__law_thing dc__law_thing pm__law_thing cd__law_thing ct__law_thing : Value}
    {od__law_marks an__law_marks : Option Addr}
    {sl__law_marks : Array (Option Value)}
    {oc__law_marks kV__law_marks dc__law_marks pm__law_marks cd__law_marks ct__law_marks : Value}
    {od__law_alone an__law_alone : Option Addr}
    {sl__law_alone : Array (Option Value)}
    {oc__law_alone kV__law_alone dc__law_alone pm__law_alone cd__law_alone ct__law_alone : Value}
    {od__law_single an__law_single : Option Addr}
    {sl__law_single : Array (Option Value)}
    {oc__law_single kV__law_single dc__law_single pm__law_single cd__law_single ct__law_single : Value}
    {od__law_pairs an__law_pairs : Option Addr}
    {sl__law_pairs : Array (Option Value)}
    {oc__law_pairs kV__law_pairs dc__law_pairs pm__law_pairs cd__law_pairs ct__law_pairs : Value}
    {od_law an_law : Option Addr}
    {sl_law : Array (Option Value)}
    {oc_law kV_law dc_law pm_law cd_law ct_law : Value}
    {nm_BadName q_BadName : Str} {N_BadName : Addr} {bs_BadName sub_BadName : List Value} {sn_BadName : List Str} {ab_BadName : Bool} {col_BadName : Option Bool} {dd_BadName : Option Addr} {x0_BadName x1_BadName x2_BadName x3_BadName x5_BadName : Option Value}
    {od_BadName___init__ an_BadName___init__ : Option Addr}
    {sl_BadName___init__ : Array (Option Value)}
    {oc_BadName___init__ kV_BadName___init__ dc_BadName___init__ pm_BadName___init__ cd_BadName___init__ ct_BadName___init__ : Value}
    {nm_NameTaken q_NameTaken : Str} {N_NameTaken : Addr} {bs_NameTaken sub_NameTaken : List Value} {sn_NameTaken : List Str} {ab_NameTaken : Bool} {col_NameTaken : Option Bool} {dd_NameTaken : Option Addr} {x0_NameTaken x1_NameTaken x2_NameTaken x3_NameTaken x5_NameTaken : Option Value}
    {od_NameTaken___init__ an_NameTaken___init__ : Option Addr}
    {sl_NameTaken___init__ : Array (Option Value)}
    {oc_NameTaken___init__ kV_NameTaken___init__ dc_NameTaken___init__ pm_NameTaken___init__ cd_NameTaken___init__ ct_NameTaken___init__ : Value}
    {nm_NoStep q_NoStep : Str} {N_NoStep : Addr} {bs_NoStep sub_NoStep : List Value} {sn_NoStep : List Str} {ab_NoStep : Bool} {col_NoStep : Option Bool} {dd_NoStep : Option Addr} {x0_NoStep x1_NoStep x2_NoStep x3_NoStep x5_NoStep : Option Value}
    {od_NoStep___init__ an_NoStep___init__ : Option Addr}
    {sl_NoStep___init__ : Array (Option Value)}
    {oc_NoStep___init__ kV_NoStep___init__ dc_NoStep___init__ pm_NoStep___init__ cd_NoStep___init__ ct_NoStep___init__ : Value}
    {nm_NoFile q_NoFile : Str} {N_NoFile : Addr} {bs_NoFile sub_NoFile : List Value} {sn_NoFile : List Str} {ab_NoFile : Bool} {col_NoFile : Option Bool} {dd_NoFile : Option Addr} {x0_NoFile x1_NoFile x2_NoFile x3_NoFile x5_NoFile : Option Value}
    {od_NoFile___init__ an_NoFile___init__ : Option Addr}
    {sl_NoFile___init__ : Array (Option Value)}
    {oc_NoFile___init__ kV_NoFile___init__ dc_NoFile___init__ pm_NoFile___init__ cd_NoFile___init__ ct_NoFile___init__ : Value}
    {nm_NoReader q_NoReader : Str} {N_NoReader : Addr} {bs_NoReader sub_NoReader : List Value} {sn_NoReader : List Str} {ab_NoReader : Bool} {col_NoReader : Option Bool} {dd_NoReader : Option Addr} {x0_NoReader x1_NoReader x2_NoReader x3_NoReader x5_NoReader : Option Value}
    {od_NoReader___init__ an_NoReader___init__ : Option Addr}
    {sl_NoReader___init__ : Array (Option Value)}
    {oc_NoReader___init__ kV_NoReader___init__ dc_NoReader___init__ pm_NoReader___init__ cd_NoReader___init__ ct_NoReader___init__ : Value}
    {nm_NoRow q_NoRow : Str} {N_NoRow : Addr} {bs_NoRow sub_NoRow : List Value} {sn_NoRow : List Str} {ab_NoRow : Bool} {col_NoRow : Option Bool} {dd_NoRow : Option Addr} {x0_NoRow x1_NoRow x2_NoRow x3_NoRow x5_NoRow : Option Value}
    {od_NoRow___init__ an_NoRow___init__ : Option Addr}
    {sl_NoRow___init__ : Array (Option Value)}
    {oc_NoRow___init__ kV_NoRow___init__ dc_NoRow___init__ pm_NoRow___init__ cd_NoRow___init__ ct_NoRow___init__ : Value}
    {nm_Clash q_Clash : Str} {N_Clash : Addr} {bs_Clash sub_Clash : List Value} {sn_Clash : List Str} {ab_Clash : Bool} {col_Clash : Option Bool} {dd_Clash : Option Addr} {x0_Clash x1_Clash x2_Clash x3_Clash x5_Clash : Option Value}
    {od_Clash___init__ an_Clash___init__ : Option Addr}
    {sl_Clash___init__ : Array (Option Value)}
    {oc_Clash___init__ kV_Clash___init__ dc_Clash___init__ pm_Clash___init__ cd_Clash___init__ ct_Clash___init__ : Value}
    {nm_SameStep q_SameStep : Str} {N_SameStep : Addr} {bs_SameStep sub_SameStep : List Value} {sn_SameStep : List Str} {ab_SameStep : Bool} {col_SameStep : Option Bool} {dd_SameStep : Option Addr} {x0_SameStep x1_SameStep x2_SameStep x3_SameStep x5_SameStep : Option Value}
    {od_SameStep___init__ an_SameStep___init__ : Option Addr}
    {sl_SameStep___init__ : Array (Option Value)}
    {oc_SameStep___init__ kV_SameStep___init__ dc_SameStep___init__ pm_SameStep___init__ cd_SameStep___init__ ct_SameStep___init__ : Value}
    {nm_SameFile q_SameFile : Str} {N_SameFile : Addr} {bs_SameFile sub_SameFile : List Value} {sn_SameFile : List Str} {ab_SameFile : Bool} {col_SameFile : Option Bool} {dd_SameFile : Option Addr} {x0_SameFile x1_SameFile x2_SameFile x3_SameFile x5_SameFile : Option Value}
    {od_SameFile___init__ an_SameFile___init__ : Option Addr}
    {sl_SameFile___init__ : Array (Option Value)}
    {oc_SameFile___init__ kV_SameFile___init__ dc_SameFile___init__ pm_SameFile___init__ cd_SameFile___init__ ct_SameFile___init__ : Value}
    {nm_BadNumber q_BadNumber : Str} {N_BadNumber : Addr} {bs_BadNumber sub_BadNumber : List Value} {sn_BadNumber : List Str} {ab_BadNumber : Bool} {col_BadNumber : Option Bool} {dd_BadNumber : Option Addr} {x0_BadNumber x1_BadNumber x2_BadNumber x3_BadNumber x5_BadNumber : Option Value}
    {od_BadNumber___init__ an_BadNumber___init__ : Option Addr}
    {sl_BadNumber___init__ : Array (Option Value)}
    {oc_BadNumber___init__ kV_BadNumber___init__ dc_BadNumber___init__ pm_BadNumber___init__ cd_BadNumber___init__ ct_BadNumber___init__ : Value}
    {nm_ZeroRing q_ZeroRing : Str} {N_ZeroRing : Addr} {bs_ZeroRing sub_ZeroRing : List Value} {sn_ZeroRing : List Str} {ab_ZeroRing : Bool} {col_ZeroRing : Option Bool} {dd_ZeroRing : Option Addr} {x0_ZeroRing x1_ZeroRing x2_ZeroRing x3_ZeroRing x5_ZeroRing : Option Value}
    {od_ZeroRing___init__ an_ZeroRing___init__ : Option Addr}
    {sl_ZeroRing___init__ : Array (Option Value)}
    {oc_ZeroRing___init__ kV_ZeroRing___init__ dc_ZeroRing___init__ pm_ZeroRing___init__ cd_ZeroRing___init__ ct_ZeroRing___init__ : Value}
    {nm_BadItem q_BadItem : Str} {N_BadItem : Addr} {bs_BadItem sub_BadItem : List Value} {sn_BadItem : List Str} {ab_BadItem : Bool} {col_BadItem : Option Bool} {dd_BadItem : Option Addr} {x0_BadItem x1_BadItem x2_BadItem x3_BadItem x5_BadItem : Option Value}
    {od_BadItem___init__ an_BadItem___init__ : Option Addr}
    {sl_BadItem___init__ : Array (Option Value)}
    {oc_BadItem___init__ kV_BadItem___init__ dc_BadItem___init__ pm_BadItem___init__ cd_BadItem___init__ ct_BadItem___init__ : Value}
    {nm_NotYet q_NotYet : Str} {N_NotYet : Addr} {bs_NotYet sub_NotYet : List Value} {sn_NotYet : List Str} {ab_NotYet : Bool} {col_NotYet : Option Bool} {dd_NotYet : Option Addr} {x0_NotYet x1_NotYet x2_NotYet x3_NotYet x5_NotYet : Option Value}
    {od_NotYet___init__ an_NotYet___init__ : Option Addr}
    {sl_NotYet___init__ : Array (Option Value)}
    {oc_NotYet___init__ kV_NotYet___init__ dc_NotYet___init__ pm_NotYet___init__ cd_NotYet___init__ ct_NotYet___init__ : Value}
    {nm_NoSet q_NoSet : Str} {N_NoSet : Addr} {bs_NoSet sub_NoSet : List Value} {sn_NoSet : List Str} {ab_NoSet : Bool} {col_NoSet : Option Bool} {dd_NoSet : Option Addr} {x0_NoSet x1_NoSet x2_NoSet x3_NoSet x5_NoSet : Option Value}
    {od_NoSet___init__ an_NoSet___init__ : Option Addr}
    {sl_NoSet___init__ : Array (Option Value)}
    {oc_NoSet___init__ kV_NoSet___init__ dc_NoSet___init__ pm_NoSet___init__ cd_NoSet___init__ ct_NoSet___init__ : Value}
    {nm_Barred q_Barred : Str} {N_Barred : Addr} {bs_Barred sub_Barred : List Value} {sn_Barred : List Str} {ab_Barred : Bool} {col_Barred : Option Bool} {dd_Barred : Option Addr} {x0_Barred x1_Barred x2_Barred x3_Barred x5_Barred : Option Value}
    {od_Barred___init__ an_Barred___init__ : Option Addr}
    {sl_Barred___init__ : Array (Option Value)}
    {oc_Barred___init__ kV_Barred___init__ dc_Barred___init__ pm_Barred___init__ cd_Barred___init__ ct_Barred___init__ : Value}
    {nm_NotKept q_NotKept : Str} {N_NotKept : Addr} {bs_NotKept sub_NotKept : List Value} {sn_NotKept : List Str} {ab_NotKept : Bool} {col_NotKept : Option Bool} {dd_NotKept : Option Addr} {x0_NotKept x1_NotKept x2_NotKept x3_NotKept x5_NotKept : Option Value}
    {od_NotKept___init__ an_NotKept___init__ : Option Addr}
    {sl_NotKept___init__ : Array (Option Value)}
    {oc_NotKept___init__ kV_NotKept___init__ dc_NotKept___init__ pm_NotKept___init__ cd_NotKept___init__ ct_NotKept___init__ : Value}
    {nm_NoRule q_NoRule : Str} {N_NoRule : Addr} {bs_NoRule sub_NoRule : List Value} {sn_NoRule : List Str} {ab_NoRule : Bool} {col_NoRule : Option Bool} {dd_NoRule : Option Addr} {x0_NoRule x1_NoRule x2_NoRule x3_NoRule x5_NoRule : Option Value}
    {od_NoRule___init__ an_NoRule___init__ : Option Addr}
    {sl_NoRule___init__ : Array (Option Value)}
    {oc_NoRule___init__ kV_NoRule___init__ dc_NoRule___init__ pm_NoRule___init__ cd_NoRule___init__ ct_NoRule___init__ : Value}
    {nm_TooEarly q_TooEarly : Str} {N_TooEarly : Addr} {bs_TooEarly sub_TooEarly : List Value} {sn_TooEarly : List Str} {ab_TooEarly : Bool} {col_TooEarly : Option Bool} {dd_TooEarly : Option Addr} {x0_TooEarly x1_TooEarly x2_TooEarly x3_TooEarly x5_TooEarly : Option Value}
    {od_TooEarly___init__ an_TooEarly___init__ : Option Addr}
    {sl_TooEarly___init__ : Array (Option Value)}
    {oc_TooEarly___init__ kV_TooEarly___init__ dc_TooEarly___init__ pm_TooEarly___init__ cd_TooEarly___init__ ct_TooEarly___init__ : Value}
    {nm_TooFar q_TooFar : Str} {N_TooFar : Addr} {bs_TooFar sub_TooFar : List Value} {sn_TooFar : List Str} {ab_TooFar : Bool} {col_TooFar : Option Bool} {dd_TooFar : Option Addr} {x0_TooFar x1_TooFar x2_TooFar x3_TooFar x5_TooFar : Option Value}
    {od_TooFar___init__ an_TooFar___init__ : Option Addr}
    {sl_TooFar___init__ : Array (Option Value)}
    {oc_TooFar___init__ kV_TooFar___init__ dc_TooFar___init__ pm_TooFar___init__ cd_TooFar___init__ ct_TooFar___init__ : Value}
    {nm_BadGaps q_BadGaps : Str} {N_BadGaps : Addr} {bs_BadGaps sub_BadGaps : List Value} {sn_BadGaps : List Str} {ab_BadGaps : Bool} {col_BadGaps : Option Bool} {dd_BadGaps : Option Addr} {x0_BadGaps x1_BadGaps x2_BadGaps x3_BadGaps x5_BadGaps : Option Value}
    {nm_EmptyRow q_EmptyRow : Str} {N_EmptyRow : Addr} {bs_EmptyRow sub_EmptyRow : List Value} {sn_EmptyRow : List Str} {ab_EmptyRow : Bool} {col_EmptyRow : Option Bool} {dd_EmptyRow : Option Addr} {x0_EmptyRow x1_EmptyRow x2_EmptyRow x3_EmptyRow x5_EmptyRow : Option Value}
    {nm_NothingBack q_NothingBack : Str} {N_NothingBack : Addr} {bs_NothingBack sub_NothingBack : List Value} {sn_NothingBack : List Str} {ab_NothingBack : Bool} {col_NothingBack : Option Bool} {dd_NothingBack : Option Addr} {x0_NothingBack x1_NothingBack x2_NothingBack x3_NothingBack x5_NothingBack : Option Value}
    {nm_BadLine q_BadLine : Str} {N_BadLine : Addr} {bs_BadLine sub_BadLine : List Value} {sn_BadLine : List Str} {ab_BadLine : Bool} {col_BadLine : Option Bool} {dd_BadLine : Option Addr} {x0_BadLine x1_BadLine x2_BadLine x3_BadLine x5_BadLine : Option Value}
    {od_BadLine___init__ an_BadLine___init__ : Option Addr}
    {sl_BadLine___init__ : Array (Option Value)}
    {oc_BadLine___init__ kV_BadLine___init__ dc_BadLine___init__ pm_BadLine___init__ cd_BadLine___init__ ct_BadLine___init__ : Value}
    (a__law_cell : PySem.W.nsIn K mainGlobals "_law_cell" = some (some (.ref f__law_cell)))
    (l__law_cell : K.lookup f__law_cell = some ⟨oc__law_cell, od__law_cell, .func (PySem.W.fnOf "_law_cell" "_law_cell" (defArgs s__law_cell) (defBody s__law_cell) (defScope s__law_cell) .none kV__law_cell dc__law_cell pm__law_cell an__law_cell cd__law_cell ct__law_cell), sl__law_cell⟩)
    (c__law_cell : PySem.W.codeIn K cd__law_cell "_law_cell" = true)
    (k__law_cell : PySem.W.keepIn K (.ref f__law_cell) = true)
    (a__law_thing : PySem.W.nsIn K mainGlobals "_law_thing" = some (some (.ref f__law_thing)))
    (l__law_thing : K.lookup f__law_thing = some ⟨oc__law_thing, od__law_thing, .func (PySem.W.fnOf "_law_thing" "_law_thing" (defArgs s__law_thing) (defBody s__law_thing) (defScope s__law_thing) .none kV__law_thing dc__law_thing pm__law_thing an__law_thing cd__law_thing ct__law_thing), sl__law_thing⟩)
    (c__law_thing : PySem.W.codeIn K cd__law_thing "_law_thing" = true)
    (k__law_thing : PySem.W.keepIn K (.ref f__law_thing) = true)
    (a__law_marks : PySem.W.nsIn K mainGlobals "_law_marks" = some (some (.ref f__law_marks)))
    (l__law_marks : K.lookup f__law_marks = some ⟨oc__law_marks, od__law_marks, .func (PySem.W.fnOf "_law_marks" "_law_marks" (defArgs s__law_marks) (defBody s__law_marks) (defScope s__law_marks) .none kV__law_marks dc__law_marks pm__law_marks an__law_marks cd__law_marks ct__law_marks), sl__law_marks⟩)
    (c__law_marks : PySem.W.codeIn K cd__law_marks "_law_marks" = true)
    (k__law_marks : PySem.W.keepIn K (.ref f__law_marks) = true)
    (a__law_alone : PySem.W.nsIn K mainGlobals "_law_alone" = some (some (.ref f__law_alone)))
    (l__law_alone : K.lookup f__law_alone = some ⟨oc__law_alone, od__law_alone, .func (PySem.W.fnOf "_law_alone" "_law_alone" (defArgs s__law_alone) (defBody s__law_alone) (defScope s__law_alone) .none kV__law_alone dc__law_alone pm__law_alone an__law_alone cd__law_alone ct__law_alone), sl__law_alone⟩)
    (c__law_alone : PySem.W.codeIn K cd__law_alone "_law_alone" = true)
    (k__law_alone : PySem.W.keepIn K (.ref f__law_alone) = true)
    (a__law_single : PySem.W.nsIn K mainGlobals "_law_single" = some (some (.ref f__law_single)))
    (l__law_single : K.lookup f__law_single = some ⟨oc__law_single, od__law_single, .func (PySem.W.fnOf "_law_single" "_law_single" (defArgs s__law_single) (defBody s__law_single) (defScope s__law_single) .none kV__law_single dc__law_single pm__law_single an__law_single cd__law_single ct__law_single), sl__law_single⟩)
    (c__law_single : PySem.W.codeIn K cd__law_single "_law_single" = true)
    (k__law_single : PySem.W.keepIn K (.ref f__law_single) = true)
    (a__law_pairs : PySem.W.nsIn K mainGlobals "_law_pairs" = some (some (.ref f__law_pairs)))
    (l__law_pairs : K.lookup f__law_pairs = some ⟨oc__law_pairs, od__law_pairs, .func (PySem.W.fnOf "_law_pairs" "_law_pairs" (defArgs s__law_pairs) (defBody s__law_pairs) (defScope s__law_pairs) .none kV__law_pairs dc__law_pairs pm__law_pairs an__law_pairs cd__law_pairs ct__law_pairs), sl__law_pairs⟩)
    (c__law_pairs : PySem.W.codeIn K cd__law_pairs "_law_pairs" = true)
    (k__law_pairs : PySem.W.keepIn K (.ref f__law_pairs) = true)
    (a_law : PySem.W.nsIn K mainGlobals "law" = some (some (.ref f_law)))
    (l_law : K.lookup f_law = some ⟨oc_law, od_law, .func (PySem.W.fnOf "law" "law" (defArgs s_law) (defBody s_law) (defScope s_law) .none kV_law dc_law pm_law an_law cd_law ct_law), sl_law⟩)
    (c_law : PySem.W.codeIn K cd_law "law" = true)
    (k_law : PySem.W.keepIn K (.ref f_law) = true)
    (a_BadName : PySem.W.nsIn K mainGlobals "BadName" = some (some (.ref C_BadName)))
    (x_BadName : K.lookup C_BadName = some (excClassObj nm_BadName q_BadName C_BadName N_BadName bs_BadName (lineOf L) true sn_BadName sub_BadName ab_BadName col_BadName dd_BadName x0_BadName x1_BadName x2_BadName x3_BadName x5_BadName "ValueError.__new__"))
    (sa_BadName : PySem.W.findIn K (.ref C_BadName) "__setattr__" = some (some (.builtin "object.__setattr__")))
    (ga_BadName : PySem.W.findIn K (.ref C_BadName) "__getattribute__" = some (some (.builtin "BaseException.__getattribute__")))
    (gg_BadName : PySem.W.findIn K (.ref C_BadName) "__getattr__" = some none)
    (ca_BadName : PySem.W.findIn K (.ref C_BadName) "__class__" = some (some (.builtin "object.__class__")))
    (kC_BadName : PySem.W.keepIn K (.ref C_BadName) = true)
    (eC_BadName : PySem.W.subIn K (.ref C_BadName) (.type "BaseException") = some true)
    (tC_BadName : PySem.W.typeIn K (.ref C_BadName) = some (.type "type"))
    (hC_BadName : PySem.W.hasDictIn K C_BadName = true)
    (mC_BadName : PySem.W.mroIn K C_BadName (.type "object") = some true)
    (nf_BadName_name : PySem.W.findIn K (.ref C_BadName) "name" = some none)
    (a_BadName___init__ : PySem.W.findIn K (.ref C_BadName) "__init__" = some (some (.ref f_BadName___init__)))
    (l_BadName___init__ : K.lookup f_BadName___init__ = some ⟨oc_BadName___init__, od_BadName___init__, .func (PySem.W.fnOf "__init__" "BadName.__init__" (defArgs s_BadName___init__) (defBody s_BadName___init__) (defScope s_BadName___init__) .none kV_BadName___init__ dc_BadName___init__ pm_BadName___init__ an_BadName___init__ cd_BadName___init__ ct_BadName___init__), sl_BadName___init__⟩)
    (c_BadName___init__ : PySem.W.codeIn K cd_BadName___init__ "BadName.__init__" = true)
    (k_BadName___init__ : PySem.W.keepIn K (.ref f_BadName___init__) = true)
    (t_BadName___init__ : PySem.W.typeIn K (.ref f_BadName___init__) = some (.type "function"))
    (a_NameTaken : PySem.W.nsIn K mainGlobals "NameTaken" = some (some (.ref C_NameTaken)))
    (x_NameTaken : K.lookup C_NameTaken = some (excClassObj nm_NameTaken q_NameTaken C_NameTaken N_NameTaken bs_NameTaken (lineOf L) true sn_NameTaken sub_NameTaken ab_NameTaken col_NameTaken dd_NameTaken x0_NameTaken x1_NameTaken x2_NameTaken x3_NameTaken x5_NameTaken "ValueError.__new__"))
    (sa_NameTaken : PySem.W.findIn K (.ref C_NameTaken) "__setattr__" = some (some (.builtin "object.__setattr__")))
    (ga_NameTaken : PySem.W.findIn K (.ref C_NameTaken) "__getattribute__" = some (some (.builtin "BaseException.__getattribute__")))
    (gg_NameTaken : PySem.W.findIn K (.ref C_NameTaken) "__getattr__" = some none)
    (ca_NameTaken : PySem.W.findIn K (.ref C_NameTaken) "__class__" = some (some (.builtin "object.__class__")))
    (kC_NameTaken : PySem.W.keepIn K (.ref C_NameTaken) = true)
    (eC_NameTaken : PySem.W.subIn K (.ref C_NameTaken) (.type "BaseException") = some true)
    (tC_NameTaken : PySem.W.typeIn K (.ref C_NameTaken) = some (.type "type"))
    (hC_NameTaken : PySem.W.hasDictIn K C_NameTaken = true)
    (mC_NameTaken : PySem.W.mroIn K C_NameTaken (.type "object") = some true)
    (nf_NameTaken_name : PySem.W.findIn K (.ref C_NameTaken) "name" = some none)
    (a_NameTaken___init__ : PySem.W.findIn K (.ref C_NameTaken) "__init__" = some (some (.ref f_NameTaken___init__)))
    (l_NameTaken___init__ : K.lookup f_NameTaken___init__ = some ⟨oc_NameTaken___init__, od_NameTaken___init__, .func (PySem.W.fnOf "__init__" "NameTaken.__init__" (defArgs s_NameTaken___init__) (defBody s_NameTaken___init__) (defScope s_NameTaken___init__) .none kV_NameTaken___init__ dc_NameTaken___init__ pm_NameTaken___init__ an_NameTaken___init__ cd_NameTaken___init__ ct_NameTaken___init__), sl_NameTaken___init__⟩)
    (c_NameTaken___init__ : PySem.W.codeIn K cd_NameTaken___init__ "NameTaken.__init__" = true)
    (k_NameTaken___init__ : PySem.W.keepIn K (.ref f_NameTaken___init__) = true)
    (t_NameTaken___init__ : PySem.W.typeIn K (.ref f_NameTaken___init__) = some (.type "function"))
    (a_NoStep : PySem.W.nsIn K mainGlobals "NoStep" = some (some (.ref C_NoStep)))
    (x_NoStep : K.lookup C_NoStep = some (excClassObj nm_NoStep q_NoStep C_NoStep N_NoStep bs_NoStep (lineOf L) true sn_NoStep sub_NoStep ab_NoStep col_NoStep dd_NoStep x0_NoStep x1_NoStep x2_NoStep x3_NoStep x5_NoStep "ValueError.__new__"))
    (sa_NoStep : PySem.W.findIn K (.ref C_NoStep) "__setattr__" = some (some (.builtin "object.__setattr__")))
    (ga_NoStep : PySem.W.findIn K (.ref C_NoStep) "__getattribute__" = some (some (.builtin "BaseException.__getattribute__")))
    (gg_NoStep : PySem.W.findIn K (.ref C_NoStep) "__getattr__" = some none)
    (ca_NoStep : PySem.W.findIn K (.ref C_NoStep) "__class__" = some (some (.builtin "object.__class__")))
    (kC_NoStep : PySem.W.keepIn K (.ref C_NoStep) = true)
    (eC_NoStep : PySem.W.subIn K (.ref C_NoStep) (.type "BaseException") = some true)
    (tC_NoStep : PySem.W.typeIn K (.ref C_NoStep) = some (.type "type"))
    (hC_NoStep : PySem.W.hasDictIn K C_NoStep = true)
    (mC_NoStep : PySem.W.mroIn K C_NoStep (.type "object") = some true)
    (nf_NoStep_name : PySem.W.findIn K (.ref C_NoStep) "name" = some none)
    (a_NoStep___init__ : PySem.W.findIn K (.ref C_NoStep) "__init__" = some (some (.ref f_NoStep___init__)))
    (l_NoStep___init__ : K.lookup f_NoStep___init__ = some ⟨oc_NoStep___init__, od_NoStep___init__, .func (PySem.W.fnOf "__init__" "NoStep.__init__" (defArgs s_NoStep___init__) (defBody s_NoStep___init__) (defScope s_NoStep___init__) .none kV_NoStep___init__ dc_NoStep___init__ pm_NoStep___init__ an_NoStep___init__ cd_NoStep___init__ ct_NoStep___init__), sl_NoStep___init__⟩)
    (c_NoStep___init__ : PySem.W.codeIn K cd_NoStep___init__ "NoStep.__init__" = true)
    (k_NoStep___init__ : PySem.W.keepIn K (.ref f_NoStep___init__) = true)
    (t_NoStep___init__ : PySem.W.typeIn K (.ref f_NoStep___init__) = some (.type "function"))
    (a_NoFile : PySem.W.nsIn K mainGlobals "NoFile" = some (some (.ref C_NoFile)))
    (x_NoFile : K.lookup C_NoFile = some (excClassObj nm_NoFile q_NoFile C_NoFile N_NoFile bs_NoFile (lineOf L) true sn_NoFile sub_NoFile ab_NoFile col_NoFile dd_NoFile x0_NoFile x1_NoFile x2_NoFile x3_NoFile x5_NoFile "ValueError.__new__"))
    (sa_NoFile : PySem.W.findIn K (.ref C_NoFile) "__setattr__" = some (some (.builtin "object.__setattr__")))
    (ga_NoFile : PySem.W.findIn K (.ref C_NoFile) "__getattribute__" = some (some (.builtin "BaseException.__getattribute__")))
    (gg_NoFile : PySem.W.findIn K (.ref C_NoFile) "__getattr__" = some none)
    (ca_NoFile : PySem.W.findIn K (.ref C_NoFile) "__class__" = some (some (.builtin "object.__class__")))
    (kC_NoFile : PySem.W.keepIn K (.ref C_NoFile) = true)
    (eC_NoFile : PySem.W.subIn K (.ref C_NoFile) (.type "BaseException") = some true)
    (tC_NoFile : PySem.W.typeIn K (.ref C_NoFile) = some (.type "type"))
    (hC_NoFile : PySem.W.hasDictIn K C_NoFile = true)
    (mC_NoFile : PySem.W.mroIn K C_NoFile (.type "object") = some true)
    (nf_NoFile_name : PySem.W.findIn K (.ref C_NoFile) "name" = some none)
    (a_NoFile___init__ : PySem.W.findIn K (.ref C_NoFile) "__init__" = some (some (.ref f_NoFile___init__)))
    (l_NoFile___init__ : K.lookup f_NoFile___init__ = some ⟨oc_NoFile___init__, od_NoFile___init__, .func (PySem.W.fnOf "__init__" "NoFile.__init__" (defArgs s_NoFile___init__) (defBody s_NoFile___init__) (defScope s_NoFile___init__) .none kV_NoFile___init__ dc_NoFile___init__ pm_NoFile___init__ an_NoFile___init__ cd_NoFile___init__ ct_NoFile___init__), sl_NoFile___init__⟩)
    (c_NoFile___init__ : PySem.W.codeIn K cd_NoFile___init__ "NoFile.__init__" = true)
    (k_NoFile___init__ : PySem.W.keepIn K (.ref f_NoFile___init__) = true)
    (t_NoFile___init__ : PySem.W.typeIn K (.ref f_NoFile___init__) = some (.type "function"))
    (a_NoReader : PySem.W.nsIn K mainGlobals "NoReader" = some (some (.ref C_NoReader)))
    (x_NoReader : K.lookup C_NoReader = some (excClassObj nm_NoReader q_NoReader C_NoReader N_NoReader bs_NoReader (lineOf L) true sn_NoReader sub_NoReader ab_NoReader col_NoReader dd_NoReader x0_NoReader x1_NoReader x2_NoReader x3_NoReader x5_NoReader "ValueError.__new__"))
    (sa_NoReader : PySem.W.findIn K (.ref C_NoReader) "__setattr__" = some (some (.builtin "object.__setattr__")))
    (ga_NoReader : PySem.W.findIn K (.ref C_NoReader) "__getattribute__" = some (some (.builtin "BaseException.__getattribute__")))
    (gg_NoReader : PySem.W.findIn K (.ref C_NoReader) "__getattr__" = some none)
    (ca_NoReader : PySem.W.findIn K (.ref C_NoReader) "__class__" = some (some (.builtin "object.__class__")))
    (kC_NoReader : PySem.W.keepIn K (.ref C_NoReader) = true)
    (eC_NoReader : PySem.W.subIn K (.ref C_NoReader) (.type "BaseException") = some true)
    (tC_NoReader : PySem.W.typeIn K (.ref C_NoReader) = some (.type "type"))
    (hC_NoReader : PySem.W.hasDictIn K C_NoReader = true)
    (mC_NoReader : PySem.W.mroIn K C_NoReader (.type "object") = some true)
    (nf_NoReader_name : PySem.W.findIn K (.ref C_NoReader) "name" = some none)
    (a_NoReader___init__ : PySem.W.findIn K (.ref C_NoReader) "__init__" = some (some (.ref f_NoReader___init__)))
    (l_NoReader___init__ : K.lookup f_NoReader___init__ = some ⟨oc_NoReader___init__, od_NoReader___init__, .func (PySem.W.fnOf "__init__" "NoReader.__init__" (defArgs s_NoReader___init__) (defBody s_NoReader___init__) (defScope s_NoReader___init__) .none kV_NoReader___init__ dc_NoReader___init__ pm_NoReader___init__ an_NoReader___init__ cd_NoReader___init__ ct_NoReader___init__), sl_NoReader___init__⟩)
    (c_NoReader___init__ : PySem.W.codeIn K cd_NoReader___init__ "NoReader.__init__" = true)
    (k_NoReader___init__ : PySem.W.keepIn K (.ref f_NoReader___init__) = true)
    (t_NoReader___init__ : PySem.W.typeIn K (.ref f_NoReader___init__) = some (.type "function"))
    (a_NoRow : PySem.W.nsIn K mainGlobals "NoRow" = some (some (.ref C_NoRow)))
    (x_NoRow : K.lookup C_NoRow = some (excClassObj nm_NoRow q_NoRow C_NoRow N_NoRow bs_NoRow (lineOf L) true sn_NoRow sub_NoRow ab_NoRow col_NoRow dd_NoRow x0_NoRow x1_NoRow x2_NoRow x3_NoRow x5_NoRow "ValueError.__new__"))
    (sa_NoRow : PySem.W.findIn K (.ref C_NoRow) "__setattr__" = some (some (.builtin "object.__setattr__")))
    (ga_NoRow : PySem.W.findIn K (.ref C_NoRow) "__getattribute__" = some (some (.builtin "BaseException.__getattribute__")))
    (gg_NoRow : PySem.W.findIn K (.ref C_NoRow) "__getattr__" = some none)
    (ca_NoRow : PySem.W.findIn K (.ref C_NoRow) "__class__" = some (some (.builtin "object.__class__")))
    (kC_NoRow : PySem.W.keepIn K (.ref C_NoRow) = true)
    (eC_NoRow : PySem.W.subIn K (.ref C_NoRow) (.type "BaseException") = some true)
    (tC_NoRow : PySem.W.typeIn K (.ref C_NoRow) = some (.type "type"))
    (hC_NoRow : PySem.W.hasDictIn K C_NoRow = true)
    (mC_NoRow : PySem.W.mroIn K C_NoRow (.type "object") = some true)
    (nf_NoRow_name : PySem.W.findIn K (.ref C_NoRow) "name" = some none)
    (a_NoRow___init__ : PySem.W.findIn K (.ref C_NoRow) "__init__" = some (some (.ref f_NoRow___init__)))
    (l_NoRow___init__ : K.lookup f_NoRow___init__ = some ⟨oc_NoRow___init__, od_NoRow___init__, .func (PySem.W.fnOf "__init__" "NoRow.__init__" (defArgs s_NoRow___init__) (defBody s_NoRow___init__) (defScope s_NoRow___init__) .none kV_NoRow___init__ dc_NoRow___init__ pm_NoRow___init__ an_NoRow___init__ cd_NoRow___init__ ct_NoRow___init__), sl_NoRow___init__⟩)
    (c_NoRow___init__ : PySem.W.codeIn K cd_NoRow___init__ "NoRow.__init__" = true)
    (k_NoRow___init__ : PySem.W.keepIn K (.ref f_NoRow___init__) = true)
    (t_NoRow___init__ : PySem.W.typeIn K (.ref f_NoRow___init__) = some (.type "function"))
    (a_Clash : PySem.W.nsIn K mainGlobals "Clash" = some (some (.ref C_Clash)))
    (x_Clash : K.lookup C_Clash = some (excClassObj nm_Clash q_Clash C_Clash N_Clash bs_Clash (lineOf L) true sn_Clash sub_Clash ab_Clash col_Clash dd_Clash x0_Clash x1_Clash x2_Clash x3_Clash x5_Clash "ValueError.__new__"))
    (sa_Clash : PySem.W.findIn K (.ref C_Clash) "__setattr__" = some (some (.builtin "object.__setattr__")))
    (ga_Clash : PySem.W.findIn K (.ref C_Clash) "__getattribute__" = some (some (.builtin "BaseException.__getattribute__")))
    (gg_Clash : PySem.W.findIn K (.ref C_Clash) "__getattr__" = some none)
    (ca_Clash : PySem.W.findIn K (.ref C_Clash) "__class__" = some (some (.builtin "object.__class__")))
    (kC_Clash : PySem.W.keepIn K (.ref C_Clash) = true)
    (eC_Clash : PySem.W.subIn K (.ref C_Clash) (.type "BaseException") = some true)
    (tC_Clash : PySem.W.typeIn K (.ref C_Clash) = some (.type "type"))
    (hC_Clash : PySem.W.hasDictIn K C_Clash = true)
    (mC_Clash : PySem.W.mroIn K C_Clash (.type "object") = some true)
    (nf_Clash_name : PySem.W.findIn K (.ref C_Clash) "name" = some none)
    (a_Clash___init__ : PySem.W.findIn K (.ref C_Clash) "__init__" = some (some (.ref f_Clash___init__)))
    (l_Clash___init__ : K.lookup f_Clash___init__ = some ⟨oc_Clash___init__, od_Clash___init__, .func (PySem.W.fnOf "__init__" "Clash.__init__" (defArgs s_Clash___init__) (defBody s_Clash___init__) (defScope s_Clash___init__) .none kV_Clash___init__ dc_Clash___init__ pm_Clash___init__ an_Clash___init__ cd_Clash___init__ ct_Clash___init__), sl_Clash___init__⟩)
    (c_Clash___init__ : PySem.W.codeIn K cd_Clash___init__ "Clash.__init__" = true)
    (k_Clash___init__ : PySem.W.keepIn K (.ref f_Clash___init__) = true)
    (t_Clash___init__ : PySem.W.typeIn K (.ref f_Clash___init__) = some (.type "function"))
    (a_SameStep : PySem.W.nsIn K mainGlobals "SameStep" = some (some (.ref C_SameStep)))
    (x_SameStep : K.lookup C_SameStep = some (excClassObj nm_SameStep q_SameStep C_SameStep N_SameStep bs_SameStep (lineOf L) true sn_SameStep sub_SameStep ab_SameStep col_SameStep dd_SameStep x0_SameStep x1_SameStep x2_SameStep x3_SameStep x5_SameStep "ValueError.__new__"))
    (sa_SameStep : PySem.W.findIn K (.ref C_SameStep) "__setattr__" = some (some (.builtin "object.__setattr__")))
    (ga_SameStep : PySem.W.findIn K (.ref C_SameStep) "__getattribute__" = some (some (.builtin "BaseException.__getattribute__")))
    (gg_SameStep : PySem.W.findIn K (.ref C_SameStep) "__getattr__" = some none)
    (ca_SameStep : PySem.W.findIn K (.ref C_SameStep) "__class__" = some (some (.builtin "object.__class__")))
    (kC_SameStep : PySem.W.keepIn K (.ref C_SameStep) = true)
    (eC_SameStep : PySem.W.subIn K (.ref C_SameStep) (.type "BaseException") = some true)
    (tC_SameStep : PySem.W.typeIn K (.ref C_SameStep) = some (.type "type"))
    (hC_SameStep : PySem.W.hasDictIn K C_SameStep = true)
    (mC_SameStep : PySem.W.mroIn K C_SameStep (.type "object") = some true)
    (nf_SameStep_name : PySem.W.findIn K (.ref C_SameStep) "name" = some none)
    (a_SameStep___init__ : PySem.W.findIn K (.ref C_SameStep) "__init__" = some (some (.ref f_SameStep___init__)))
    (l_SameStep___init__ : K.lookup f_SameStep___init__ = some ⟨oc_SameStep___init__, od_SameStep___init__, .func (PySem.W.fnOf "__init__" "SameStep.__init__" (defArgs s_SameStep___init__) (defBody s_SameStep___init__) (defScope s_SameStep___init__) .none kV_SameStep___init__ dc_SameStep___init__ pm_SameStep___init__ an_SameStep___init__ cd_SameStep___init__ ct_SameStep___init__), sl_SameStep___init__⟩)
    (c_SameStep___init__ : PySem.W.codeIn K cd_SameStep___init__ "SameStep.__init__" = true)
    (k_SameStep___init__ : PySem.W.keepIn K (.ref f_SameStep___init__) = true)
    (t_SameStep___init__ : PySem.W.typeIn K (.ref f_SameStep___init__) = some (.type "function"))
    (a_SameFile : PySem.W.nsIn K mainGlobals "SameFile" = some (some (.ref C_SameFile)))
    (x_SameFile : K.lookup C_SameFile = some (excClassObj nm_SameFile q_SameFile C_SameFile N_SameFile bs_SameFile (lineOf L) true sn_SameFile sub_SameFile ab_SameFile col_SameFile dd_SameFile x0_SameFile x1_SameFile x2_SameFile x3_SameFile x5_SameFile "ValueError.__new__"))
    (sa_SameFile : PySem.W.findIn K (.ref C_SameFile) "__setattr__" = some (some (.builtin "object.__setattr__")))
    (ga_SameFile : PySem.W.findIn K (.ref C_SameFile) "__getattribute__" = some (some (.builtin "BaseException.__getattribute__")))
    (gg_SameFile : PySem.W.findIn K (.ref C_SameFile) "__getattr__" = some none)
    (ca_SameFile : PySem.W.findIn K (.ref C_SameFile) "__class__" = some (some (.builtin "object.__class__")))
    (kC_SameFile : PySem.W.keepIn K (.ref C_SameFile) = true)
    (eC_SameFile : PySem.W.subIn K (.ref C_SameFile) (.type "BaseException") = some true)
    (tC_SameFile : PySem.W.typeIn K (.ref C_SameFile) = some (.type "type"))
    (hC_SameFile : PySem.W.hasDictIn K C_SameFile = true)
    (mC_SameFile : PySem.W.mroIn K C_SameFile (.type "object") = some true)
    (nf_SameFile_name : PySem.W.findIn K (.ref C_SameFile) "name" = some none)
    (a_SameFile___init__ : PySem.W.findIn K (.ref C_SameFile) "__init__" = some (some (.ref f_SameFile___init__)))
    (l_SameFile___init__ : K.lookup f_SameFile___init__ = some ⟨oc_SameFile___init__, od_SameFile___init__, .func (PySem.W.fnOf "__init__" "SameFile.__init__" (defArgs s_SameFile___init__) (defBody s_SameFile___init__) (defScope s_SameFile___init__) .none kV_SameFile___init__ dc_SameFile___init__ pm_SameFile___init__ an_SameFile___init__ cd_SameFile___init__ ct_SameFile___init__), sl_SameFile___init__⟩)
    (c_SameFile___init__ : PySem.W.codeIn K cd_SameFile___init__ "SameFile.__init__" = true)
    (k_SameFile___init__ : PySem.W.keepIn K (.ref f_SameFile___init__) = true)
    (t_SameFile___init__ : PySem.W.typeIn K (.ref f_SameFile___init__) = some (.type "function"))
    (a_BadNumber : PySem.W.nsIn K mainGlobals "BadNumber" = some (some (.ref C_BadNumber)))
    (x_BadNumber : K.lookup C_BadNumber = some (excClassObj nm_BadNumber q_BadNumber C_BadNumber N_BadNumber bs_BadNumber (lineOf L) true sn_BadNumber sub_BadNumber ab_BadNumber col_BadNumber dd_BadNumber x0_BadNumber x1_BadNumber x2_BadNumber x3_BadNumber x5_BadNumber "ValueError.__new__"))
    (sa_BadNumber : PySem.W.findIn K (.ref C_BadNumber) "__setattr__" = some (some (.builtin "object.__setattr__")))
    (ga_BadNumber : PySem.W.findIn K (.ref C_BadNumber) "__getattribute__" = some (some (.builtin "BaseException.__getattribute__")))
    (gg_BadNumber : PySem.W.findIn K (.ref C_BadNumber) "__getattr__" = some none)
    (ca_BadNumber : PySem.W.findIn K (.ref C_BadNumber) "__class__" = some (some (.builtin "object.__class__")))
    (kC_BadNumber : PySem.W.keepIn K (.ref C_BadNumber) = true)
    (eC_BadNumber : PySem.W.subIn K (.ref C_BadNumber) (.type "BaseException") = some true)
    (tC_BadNumber : PySem.W.typeIn K (.ref C_BadNumber) = some (.type "type"))
    (hC_BadNumber : PySem.W.hasDictIn K C_BadNumber = true)
    (mC_BadNumber : PySem.W.mroIn K C_BadNumber (.type "object") = some true)
    (nf_BadNumber_value : PySem.W.findIn K (.ref C_BadNumber) "value" = some none)
    (a_BadNumber___init__ : PySem.W.findIn K (.ref C_BadNumber) "__init__" = some (some (.ref f_BadNumber___init__)))
    (l_BadNumber___init__ : K.lookup f_BadNumber___init__ = some ⟨oc_BadNumber___init__, od_BadNumber___init__, .func (PySem.W.fnOf "__init__" "BadNumber.__init__" (defArgs s_BadNumber___init__) (defBody s_BadNumber___init__) (defScope s_BadNumber___init__) .none kV_BadNumber___init__ dc_BadNumber___init__ pm_BadNumber___init__ an_BadNumber___init__ cd_BadNumber___init__ ct_BadNumber___init__), sl_BadNumber___init__⟩)
    (c_BadNumber___init__ : PySem.W.codeIn K cd_BadNumber___init__ "BadNumber.__init__" = true)
    (k_BadNumber___init__ : PySem.W.keepIn K (.ref f_BadNumber___init__) = true)
    (t_BadNumber___init__ : PySem.W.typeIn K (.ref f_BadNumber___init__) = some (.type "function"))
    (a_ZeroRing : PySem.W.nsIn K mainGlobals "ZeroRing" = some (some (.ref C_ZeroRing)))
    (x_ZeroRing : K.lookup C_ZeroRing = some (excClassObj nm_ZeroRing q_ZeroRing C_ZeroRing N_ZeroRing bs_ZeroRing (lineOf L) true sn_ZeroRing sub_ZeroRing ab_ZeroRing col_ZeroRing dd_ZeroRing x0_ZeroRing x1_ZeroRing x2_ZeroRing x3_ZeroRing x5_ZeroRing "ValueError.__new__"))
    (sa_ZeroRing : PySem.W.findIn K (.ref C_ZeroRing) "__setattr__" = some (some (.builtin "object.__setattr__")))
    (ga_ZeroRing : PySem.W.findIn K (.ref C_ZeroRing) "__getattribute__" = some (some (.builtin "BaseException.__getattribute__")))
    (gg_ZeroRing : PySem.W.findIn K (.ref C_ZeroRing) "__getattr__" = some none)
    (ca_ZeroRing : PySem.W.findIn K (.ref C_ZeroRing) "__class__" = some (some (.builtin "object.__class__")))
    (kC_ZeroRing : PySem.W.keepIn K (.ref C_ZeroRing) = true)
    (eC_ZeroRing : PySem.W.subIn K (.ref C_ZeroRing) (.type "BaseException") = some true)
    (tC_ZeroRing : PySem.W.typeIn K (.ref C_ZeroRing) = some (.type "type"))
    (hC_ZeroRing : PySem.W.hasDictIn K C_ZeroRing = true)
    (mC_ZeroRing : PySem.W.mroIn K C_ZeroRing (.type "object") = some true)
    (nf_ZeroRing_members : PySem.W.findIn K (.ref C_ZeroRing) "members" = some none)
    (a_ZeroRing___init__ : PySem.W.findIn K (.ref C_ZeroRing) "__init__" = some (some (.ref f_ZeroRing___init__)))
    (l_ZeroRing___init__ : K.lookup f_ZeroRing___init__ = some ⟨oc_ZeroRing___init__, od_ZeroRing___init__, .func (PySem.W.fnOf "__init__" "ZeroRing.__init__" (defArgs s_ZeroRing___init__) (defBody s_ZeroRing___init__) (defScope s_ZeroRing___init__) .none kV_ZeroRing___init__ dc_ZeroRing___init__ pm_ZeroRing___init__ an_ZeroRing___init__ cd_ZeroRing___init__ ct_ZeroRing___init__), sl_ZeroRing___init__⟩)
    (c_ZeroRing___init__ : PySem.W.codeIn K cd_ZeroRing___init__ "ZeroRing.__init__" = true)
    (k_ZeroRing___init__ : PySem.W.keepIn K (.ref f_ZeroRing___init__) = true)
    (t_ZeroRing___init__ : PySem.W.typeIn K (.ref f_ZeroRing___init__) = some (.type "function"))
    (a_BadItem : PySem.W.nsIn K mainGlobals "BadItem" = some (some (.ref C_BadItem)))
    (x_BadItem : K.lookup C_BadItem = some (excClassObj nm_BadItem q_BadItem C_BadItem N_BadItem bs_BadItem (lineOf L) true sn_BadItem sub_BadItem ab_BadItem col_BadItem dd_BadItem x0_BadItem x1_BadItem x2_BadItem x3_BadItem x5_BadItem "ValueError.__new__"))
    (sa_BadItem : PySem.W.findIn K (.ref C_BadItem) "__setattr__" = some (some (.builtin "object.__setattr__")))
    (ga_BadItem : PySem.W.findIn K (.ref C_BadItem) "__getattribute__" = some (some (.builtin "BaseException.__getattribute__")))
    (gg_BadItem : PySem.W.findIn K (.ref C_BadItem) "__getattr__" = some none)
    (ca_BadItem : PySem.W.findIn K (.ref C_BadItem) "__class__" = some (some (.builtin "object.__class__")))
    (kC_BadItem : PySem.W.keepIn K (.ref C_BadItem) = true)
    (eC_BadItem : PySem.W.subIn K (.ref C_BadItem) (.type "BaseException") = some true)
    (tC_BadItem : PySem.W.typeIn K (.ref C_BadItem) = some (.type "type"))
    (hC_BadItem : PySem.W.hasDictIn K C_BadItem = true)
    (mC_BadItem : PySem.W.mroIn K C_BadItem (.type "object") = some true)
    (nf_BadItem_place : PySem.W.findIn K (.ref C_BadItem) "place" = some none)
    (a_BadItem___init__ : PySem.W.findIn K (.ref C_BadItem) "__init__" = some (some (.ref f_BadItem___init__)))
    (l_BadItem___init__ : K.lookup f_BadItem___init__ = some ⟨oc_BadItem___init__, od_BadItem___init__, .func (PySem.W.fnOf "__init__" "BadItem.__init__" (defArgs s_BadItem___init__) (defBody s_BadItem___init__) (defScope s_BadItem___init__) .none kV_BadItem___init__ dc_BadItem___init__ pm_BadItem___init__ an_BadItem___init__ cd_BadItem___init__ ct_BadItem___init__), sl_BadItem___init__⟩)
    (c_BadItem___init__ : PySem.W.codeIn K cd_BadItem___init__ "BadItem.__init__" = true)
    (k_BadItem___init__ : PySem.W.keepIn K (.ref f_BadItem___init__) = true)
    (t_BadItem___init__ : PySem.W.typeIn K (.ref f_BadItem___init__) = some (.type "function"))
    (a_NotYet : PySem.W.nsIn K mainGlobals "NotYet" = some (some (.ref C_NotYet)))
    (x_NotYet : K.lookup C_NotYet = some (excClassObj nm_NotYet q_NotYet C_NotYet N_NotYet bs_NotYet (lineOf L) true sn_NotYet sub_NotYet ab_NotYet col_NotYet dd_NotYet x0_NotYet x1_NotYet x2_NotYet x3_NotYet x5_NotYet "ValueError.__new__"))
    (sa_NotYet : PySem.W.findIn K (.ref C_NotYet) "__setattr__" = some (some (.builtin "object.__setattr__")))
    (ga_NotYet : PySem.W.findIn K (.ref C_NotYet) "__getattribute__" = some (some (.builtin "BaseException.__getattribute__")))
    (gg_NotYet : PySem.W.findIn K (.ref C_NotYet) "__getattr__" = some none)
    (ca_NotYet : PySem.W.findIn K (.ref C_NotYet) "__class__" = some (some (.builtin "object.__class__")))
    (kC_NotYet : PySem.W.keepIn K (.ref C_NotYet) = true)
    (eC_NotYet : PySem.W.subIn K (.ref C_NotYet) (.type "BaseException") = some true)
    (tC_NotYet : PySem.W.typeIn K (.ref C_NotYet) = some (.type "type"))
    (hC_NotYet : PySem.W.hasDictIn K C_NotYet = true)
    (mC_NotYet : PySem.W.mroIn K C_NotYet (.type "object") = some true)
    (nf_NotYet_place : PySem.W.findIn K (.ref C_NotYet) "place" = some none)
    (nf_NotYet_step : PySem.W.findIn K (.ref C_NotYet) "step" = some none)
    (a_NotYet___init__ : PySem.W.findIn K (.ref C_NotYet) "__init__" = some (some (.ref f_NotYet___init__)))
    (l_NotYet___init__ : K.lookup f_NotYet___init__ = some ⟨oc_NotYet___init__, od_NotYet___init__, .func (PySem.W.fnOf "__init__" "NotYet.__init__" (defArgs s_NotYet___init__) (defBody s_NotYet___init__) (defScope s_NotYet___init__) .none kV_NotYet___init__ dc_NotYet___init__ pm_NotYet___init__ an_NotYet___init__ cd_NotYet___init__ ct_NotYet___init__), sl_NotYet___init__⟩)
    (c_NotYet___init__ : PySem.W.codeIn K cd_NotYet___init__ "NotYet.__init__" = true)
    (k_NotYet___init__ : PySem.W.keepIn K (.ref f_NotYet___init__) = true)
    (t_NotYet___init__ : PySem.W.typeIn K (.ref f_NotYet___init__) = some (.type "function"))
    (a_NoSet : PySem.W.nsIn K mainGlobals "NoSet" = some (some (.ref C_NoSet)))
    (x_NoSet : K.lookup C_NoSet = some (excClassObj nm_NoSet q_NoSet C_NoSet N_NoSet bs_NoSet (lineOf L) true sn_NoSet sub_NoSet ab_NoSet col_NoSet dd_NoSet x0_NoSet x1_NoSet x2_NoSet x3_NoSet x5_NoSet "ValueError.__new__"))
    (sa_NoSet : PySem.W.findIn K (.ref C_NoSet) "__setattr__" = some (some (.builtin "object.__setattr__")))
    (ga_NoSet : PySem.W.findIn K (.ref C_NoSet) "__getattribute__" = some (some (.builtin "BaseException.__getattribute__")))
    (gg_NoSet : PySem.W.findIn K (.ref C_NoSet) "__getattr__" = some none)
    (ca_NoSet : PySem.W.findIn K (.ref C_NoSet) "__class__" = some (some (.builtin "object.__class__")))
    (kC_NoSet : PySem.W.keepIn K (.ref C_NoSet) = true)
    (eC_NoSet : PySem.W.subIn K (.ref C_NoSet) (.type "BaseException") = some true)
    (tC_NoSet : PySem.W.typeIn K (.ref C_NoSet) = some (.type "type"))
    (hC_NoSet : PySem.W.hasDictIn K C_NoSet = true)
    (mC_NoSet : PySem.W.mroIn K C_NoSet (.type "object") = some true)
    (nf_NoSet_members : PySem.W.findIn K (.ref C_NoSet) "members" = some none)
    (a_NoSet___init__ : PySem.W.findIn K (.ref C_NoSet) "__init__" = some (some (.ref f_NoSet___init__)))
    (l_NoSet___init__ : K.lookup f_NoSet___init__ = some ⟨oc_NoSet___init__, od_NoSet___init__, .func (PySem.W.fnOf "__init__" "NoSet.__init__" (defArgs s_NoSet___init__) (defBody s_NoSet___init__) (defScope s_NoSet___init__) .none kV_NoSet___init__ dc_NoSet___init__ pm_NoSet___init__ an_NoSet___init__ cd_NoSet___init__ ct_NoSet___init__), sl_NoSet___init__⟩)
    (c_NoSet___init__ : PySem.W.codeIn K cd_NoSet___init__ "NoSet.__init__" = true)
    (k_NoSet___init__ : PySem.W.keepIn K (.ref f_NoSet___init__) = true)
    (t_NoSet___init__ : PySem.W.typeIn K (.ref f_NoSet___init__) = some (.type "function"))
    (a_Barred : PySem.W.nsIn K mainGlobals "Barred" = some (some (.ref C_Barred)))
    (x_Barred : K.lookup C_Barred = some (excClassObj nm_Barred q_Barred C_Barred N_Barred bs_Barred (lineOf L) true sn_Barred sub_Barred ab_Barred col_Barred dd_Barred x0_Barred x1_Barred x2_Barred x3_Barred x5_Barred "ValueError.__new__"))
    (sa_Barred : PySem.W.findIn K (.ref C_Barred) "__setattr__" = some (some (.builtin "object.__setattr__")))
    (ga_Barred : PySem.W.findIn K (.ref C_Barred) "__getattribute__" = some (some (.builtin "BaseException.__getattribute__")))
    (gg_Barred : PySem.W.findIn K (.ref C_Barred) "__getattr__" = some none)
    (ca_Barred : PySem.W.findIn K (.ref C_Barred) "__class__" = some (some (.builtin "object.__class__")))
    (kC_Barred : PySem.W.keepIn K (.ref C_Barred) = true)
    (eC_Barred : PySem.W.subIn K (.ref C_Barred) (.type "BaseException") = some true)
    (tC_Barred : PySem.W.typeIn K (.ref C_Barred) = some (.type "type"))
    (hC_Barred : PySem.W.hasDictIn K C_Barred = true)
    (mC_Barred : PySem.W.mroIn K C_Barred (.type "object") = some true)
    (nf_Barred_pieces : PySem.W.findIn K (.ref C_Barred) "pieces" = some none)
    (a_Barred___init__ : PySem.W.findIn K (.ref C_Barred) "__init__" = some (some (.ref f_Barred___init__)))
    (l_Barred___init__ : K.lookup f_Barred___init__ = some ⟨oc_Barred___init__, od_Barred___init__, .func (PySem.W.fnOf "__init__" "Barred.__init__" (defArgs s_Barred___init__) (defBody s_Barred___init__) (defScope s_Barred___init__) .none kV_Barred___init__ dc_Barred___init__ pm_Barred___init__ an_Barred___init__ cd_Barred___init__ ct_Barred___init__), sl_Barred___init__⟩)
    (c_Barred___init__ : PySem.W.codeIn K cd_Barred___init__ "Barred.__init__" = true)
    (k_Barred___init__ : PySem.W.keepIn K (.ref f_Barred___init__) = true)
    (t_Barred___init__ : PySem.W.typeIn K (.ref f_Barred___init__) = some (.type "function"))
    (a_NotKept : PySem.W.nsIn K mainGlobals "NotKept" = some (some (.ref C_NotKept)))
    (x_NotKept : K.lookup C_NotKept = some (excClassObj nm_NotKept q_NotKept C_NotKept N_NotKept bs_NotKept (lineOf L) true sn_NotKept sub_NotKept ab_NotKept col_NotKept dd_NotKept x0_NotKept x1_NotKept x2_NotKept x3_NotKept x5_NotKept "ValueError.__new__"))
    (sa_NotKept : PySem.W.findIn K (.ref C_NotKept) "__setattr__" = some (some (.builtin "object.__setattr__")))
    (ga_NotKept : PySem.W.findIn K (.ref C_NotKept) "__getattribute__" = some (some (.builtin "BaseException.__getattribute__")))
    (gg_NotKept : PySem.W.findIn K (.ref C_NotKept) "__getattr__" = some none)
    (ca_NotKept : PySem.W.findIn K (.ref C_NotKept) "__class__" = some (some (.builtin "object.__class__")))
    (kC_NotKept : PySem.W.keepIn K (.ref C_NotKept) = true)
    (eC_NotKept : PySem.W.subIn K (.ref C_NotKept) (.type "BaseException") = some true)
    (tC_NotKept : PySem.W.typeIn K (.ref C_NotKept) = some (.type "type"))
    (hC_NotKept : PySem.W.hasDictIn K C_NotKept = true)
    (mC_NotKept : PySem.W.mroIn K C_NotKept (.type "object") = some true)
    (nf_NotKept_first : PySem.W.findIn K (.ref C_NotKept) "first" = some none)
    (nf_NotKept_second : PySem.W.findIn K (.ref C_NotKept) "second" = some none)
    (a_NotKept___init__ : PySem.W.findIn K (.ref C_NotKept) "__init__" = some (some (.ref f_NotKept___init__)))
    (l_NotKept___init__ : K.lookup f_NotKept___init__ = some ⟨oc_NotKept___init__, od_NotKept___init__, .func (PySem.W.fnOf "__init__" "NotKept.__init__" (defArgs s_NotKept___init__) (defBody s_NotKept___init__) (defScope s_NotKept___init__) .none kV_NotKept___init__ dc_NotKept___init__ pm_NotKept___init__ an_NotKept___init__ cd_NotKept___init__ ct_NotKept___init__), sl_NotKept___init__⟩)
    (c_NotKept___init__ : PySem.W.codeIn K cd_NotKept___init__ "NotKept.__init__" = true)
    (k_NotKept___init__ : PySem.W.keepIn K (.ref f_NotKept___init__) = true)
    (t_NotKept___init__ : PySem.W.typeIn K (.ref f_NotKept___init__) = some (.type "function"))
    (a_NoRule : PySem.W.nsIn K mainGlobals "NoRule" = some (some (.ref C_NoRule)))
    (x_NoRule : K.lookup C_NoRule = some (excClassObj nm_NoRule q_NoRule C_NoRule N_NoRule bs_NoRule (lineOf L) true sn_NoRule sub_NoRule ab_NoRule col_NoRule dd_NoRule x0_NoRule x1_NoRule x2_NoRule x3_NoRule x5_NoRule "ValueError.__new__"))
    (sa_NoRule : PySem.W.findIn K (.ref C_NoRule) "__setattr__" = some (some (.builtin "object.__setattr__")))
    (ga_NoRule : PySem.W.findIn K (.ref C_NoRule) "__getattribute__" = some (some (.builtin "BaseException.__getattribute__")))
    (gg_NoRule : PySem.W.findIn K (.ref C_NoRule) "__getattr__" = some none)
    (ca_NoRule : PySem.W.findIn K (.ref C_NoRule) "__class__" = some (some (.builtin "object.__class__")))
    (kC_NoRule : PySem.W.keepIn K (.ref C_NoRule) = true)
    (eC_NoRule : PySem.W.subIn K (.ref C_NoRule) (.type "BaseException") = some true)
    (tC_NoRule : PySem.W.typeIn K (.ref C_NoRule) = some (.type "type"))
    (hC_NoRule : PySem.W.hasDictIn K C_NoRule = true)
    (mC_NoRule : PySem.W.mroIn K C_NoRule (.type "object") = some true)
    (nf_NoRule_first : PySem.W.findIn K (.ref C_NoRule) "first" = some none)
    (nf_NoRule_second : PySem.W.findIn K (.ref C_NoRule) "second" = some none)
    (a_NoRule___init__ : PySem.W.findIn K (.ref C_NoRule) "__init__" = some (some (.ref f_NoRule___init__)))
    (l_NoRule___init__ : K.lookup f_NoRule___init__ = some ⟨oc_NoRule___init__, od_NoRule___init__, .func (PySem.W.fnOf "__init__" "NoRule.__init__" (defArgs s_NoRule___init__) (defBody s_NoRule___init__) (defScope s_NoRule___init__) .none kV_NoRule___init__ dc_NoRule___init__ pm_NoRule___init__ an_NoRule___init__ cd_NoRule___init__ ct_NoRule___init__), sl_NoRule___init__⟩)
    (c_NoRule___init__ : PySem.W.codeIn K cd_NoRule___init__ "NoRule.__init__" = true)
    (k_NoRule___init__ : PySem.W.keepIn K (.ref f_NoRule___init__) = true)
    (t_NoRule___init__ : PySem.W.typeIn K (.ref f_NoRule___init__) = some (.type "function"))
    (a_TooEarly : PySem.W.nsIn K mainGlobals "TooEarly" = some (some (.ref C_TooEarly)))
    (x_TooEarly : K.lookup C_TooEarly = some (excClassObj nm_TooEarly q_TooEarly C_TooEarly N_TooEarly bs_TooEarly (lineOf L) true sn_TooEarly sub_TooEarly ab_TooEarly col_TooEarly dd_TooEarly x0_TooEarly x1_TooEarly x2_TooEarly x3_TooEarly x5_TooEarly "ValueError.__new__"))
    (sa_TooEarly : PySem.W.findIn K (.ref C_TooEarly) "__setattr__" = some (some (.builtin "object.__setattr__")))
    (ga_TooEarly : PySem.W.findIn K (.ref C_TooEarly) "__getattribute__" = some (some (.builtin "BaseException.__getattribute__")))
    (gg_TooEarly : PySem.W.findIn K (.ref C_TooEarly) "__getattr__" = some none)
    (ca_TooEarly : PySem.W.findIn K (.ref C_TooEarly) "__class__" = some (some (.builtin "object.__class__")))
    (kC_TooEarly : PySem.W.keepIn K (.ref C_TooEarly) = true)
    (eC_TooEarly : PySem.W.subIn K (.ref C_TooEarly) (.type "BaseException") = some true)
    (tC_TooEarly : PySem.W.typeIn K (.ref C_TooEarly) = some (.type "type"))
    (hC_TooEarly : PySem.W.hasDictIn K C_TooEarly = true)
    (mC_TooEarly : PySem.W.mroIn K C_TooEarly (.type "object") = some true)
    (nf_TooEarly_place : PySem.W.findIn K (.ref C_TooEarly) "place" = some none)
    (a_TooEarly___init__ : PySem.W.findIn K (.ref C_TooEarly) "__init__" = some (some (.ref f_TooEarly___init__)))
    (l_TooEarly___init__ : K.lookup f_TooEarly___init__ = some ⟨oc_TooEarly___init__, od_TooEarly___init__, .func (PySem.W.fnOf "__init__" "TooEarly.__init__" (defArgs s_TooEarly___init__) (defBody s_TooEarly___init__) (defScope s_TooEarly___init__) .none kV_TooEarly___init__ dc_TooEarly___init__ pm_TooEarly___init__ an_TooEarly___init__ cd_TooEarly___init__ ct_TooEarly___init__), sl_TooEarly___init__⟩)
    (c_TooEarly___init__ : PySem.W.codeIn K cd_TooEarly___init__ "TooEarly.__init__" = true)
    (k_TooEarly___init__ : PySem.W.keepIn K (.ref f_TooEarly___init__) = true)
    (t_TooEarly___init__ : PySem.W.typeIn K (.ref f_TooEarly___init__) = some (.type "function"))
    (a_TooFar : PySem.W.nsIn K mainGlobals "TooFar" = some (some (.ref C_TooFar)))
    (x_TooFar : K.lookup C_TooFar = some (excClassObj nm_TooFar q_TooFar C_TooFar N_TooFar bs_TooFar (lineOf L) true sn_TooFar sub_TooFar ab_TooFar col_TooFar dd_TooFar x0_TooFar x1_TooFar x2_TooFar x3_TooFar x5_TooFar "ValueError.__new__"))
    (sa_TooFar : PySem.W.findIn K (.ref C_TooFar) "__setattr__" = some (some (.builtin "object.__setattr__")))
    (ga_TooFar : PySem.W.findIn K (.ref C_TooFar) "__getattribute__" = some (some (.builtin "BaseException.__getattribute__")))
    (gg_TooFar : PySem.W.findIn K (.ref C_TooFar) "__getattr__" = some none)
    (ca_TooFar : PySem.W.findIn K (.ref C_TooFar) "__class__" = some (some (.builtin "object.__class__")))
    (kC_TooFar : PySem.W.keepIn K (.ref C_TooFar) = true)
    (eC_TooFar : PySem.W.subIn K (.ref C_TooFar) (.type "BaseException") = some true)
    (tC_TooFar : PySem.W.typeIn K (.ref C_TooFar) = some (.type "type"))
    (hC_TooFar : PySem.W.hasDictIn K C_TooFar = true)
    (mC_TooFar : PySem.W.mroIn K C_TooFar (.type "object") = some true)
    (nf_TooFar_first : PySem.W.findIn K (.ref C_TooFar) "first" = some none)
    (nf_TooFar_second : PySem.W.findIn K (.ref C_TooFar) "second" = some none)
    (a_TooFar___init__ : PySem.W.findIn K (.ref C_TooFar) "__init__" = some (some (.ref f_TooFar___init__)))
    (l_TooFar___init__ : K.lookup f_TooFar___init__ = some ⟨oc_TooFar___init__, od_TooFar___init__, .func (PySem.W.fnOf "__init__" "TooFar.__init__" (defArgs s_TooFar___init__) (defBody s_TooFar___init__) (defScope s_TooFar___init__) .none kV_TooFar___init__ dc_TooFar___init__ pm_TooFar___init__ an_TooFar___init__ cd_TooFar___init__ ct_TooFar___init__), sl_TooFar___init__⟩)
    (c_TooFar___init__ : PySem.W.codeIn K cd_TooFar___init__ "TooFar.__init__" = true)
    (k_TooFar___init__ : PySem.W.keepIn K (.ref f_TooFar___init__) = true)
    (t_TooFar___init__ : PySem.W.typeIn K (.ref f_TooFar___init__) = some (.type "function"))
    (a_BadGaps : PySem.W.nsIn K mainGlobals "BadGaps" = some (some (.ref C_BadGaps)))
    (x_BadGaps : K.lookup C_BadGaps = some (excClassObj nm_BadGaps q_BadGaps C_BadGaps N_BadGaps bs_BadGaps (lineOf L) true sn_BadGaps sub_BadGaps ab_BadGaps col_BadGaps dd_BadGaps x0_BadGaps x1_BadGaps x2_BadGaps x3_BadGaps x5_BadGaps "ValueError.__new__"))
    (sa_BadGaps : PySem.W.findIn K (.ref C_BadGaps) "__setattr__" = some (some (.builtin "object.__setattr__")))
    (ga_BadGaps : PySem.W.findIn K (.ref C_BadGaps) "__getattribute__" = some (some (.builtin "BaseException.__getattribute__")))
    (gg_BadGaps : PySem.W.findIn K (.ref C_BadGaps) "__getattr__" = some none)
    (ca_BadGaps : PySem.W.findIn K (.ref C_BadGaps) "__class__" = some (some (.builtin "object.__class__")))
    (kC_BadGaps : PySem.W.keepIn K (.ref C_BadGaps) = true)
    (eC_BadGaps : PySem.W.subIn K (.ref C_BadGaps) (.type "BaseException") = some true)
    (tC_BadGaps : PySem.W.typeIn K (.ref C_BadGaps) = some (.type "type"))
    (hC_BadGaps : PySem.W.hasDictIn K C_BadGaps = true)
    (mC_BadGaps : PySem.W.mroIn K C_BadGaps (.type "object") = some true)
    (ex0_BadGaps : PySem.W.excIn K C_BadGaps [.type "ValueError", .type "Exception", .type "BaseException", .type "object"] "ValueError.__new__" = true)
    (a_EmptyRow : PySem.W.nsIn K mainGlobals "EmptyRow" = some (some (.ref C_EmptyRow)))
    (x_EmptyRow : K.lookup C_EmptyRow = some (excClassObj nm_EmptyRow q_EmptyRow C_EmptyRow N_EmptyRow bs_EmptyRow (lineOf L) true sn_EmptyRow sub_EmptyRow ab_EmptyRow col_EmptyRow dd_EmptyRow x0_EmptyRow x1_EmptyRow x2_EmptyRow x3_EmptyRow x5_EmptyRow "ValueError.__new__"))
    (sa_EmptyRow : PySem.W.findIn K (.ref C_EmptyRow) "__setattr__" = some (some (.builtin "object.__setattr__")))
    (ga_EmptyRow : PySem.W.findIn K (.ref C_EmptyRow) "__getattribute__" = some (some (.builtin "BaseException.__getattribute__")))
    (gg_EmptyRow : PySem.W.findIn K (.ref C_EmptyRow) "__getattr__" = some none)
    (ca_EmptyRow : PySem.W.findIn K (.ref C_EmptyRow) "__class__" = some (some (.builtin "object.__class__")))
    (kC_EmptyRow : PySem.W.keepIn K (.ref C_EmptyRow) = true)
    (eC_EmptyRow : PySem.W.subIn K (.ref C_EmptyRow) (.type "BaseException") = some true)
    (tC_EmptyRow : PySem.W.typeIn K (.ref C_EmptyRow) = some (.type "type"))
    (hC_EmptyRow : PySem.W.hasDictIn K C_EmptyRow = true)
    (mC_EmptyRow : PySem.W.mroIn K C_EmptyRow (.type "object") = some true)
    (ex0_EmptyRow : PySem.W.excIn K C_EmptyRow [.type "ValueError", .type "Exception", .type "BaseException", .type "object"] "ValueError.__new__" = true)
    (a_NothingBack : PySem.W.nsIn K mainGlobals "NothingBack" = some (some (.ref C_NothingBack)))
    (x_NothingBack : K.lookup C_NothingBack = some (excClassObj nm_NothingBack q_NothingBack C_NothingBack N_NothingBack bs_NothingBack (lineOf L) true sn_NothingBack sub_NothingBack ab_NothingBack col_NothingBack dd_NothingBack x0_NothingBack x1_NothingBack x2_NothingBack x3_NothingBack x5_NothingBack "ValueError.__new__"))
    (sa_NothingBack : PySem.W.findIn K (.ref C_NothingBack) "__setattr__" = some (some (.builtin "object.__setattr__")))
    (ga_NothingBack : PySem.W.findIn K (.ref C_NothingBack) "__getattribute__" = some (some (.builtin "BaseException.__getattribute__")))
    (gg_NothingBack : PySem.W.findIn K (.ref C_NothingBack) "__getattr__" = some none)
    (ca_NothingBack : PySem.W.findIn K (.ref C_NothingBack) "__class__" = some (some (.builtin "object.__class__")))
    (kC_NothingBack : PySem.W.keepIn K (.ref C_NothingBack) = true)
    (eC_NothingBack : PySem.W.subIn K (.ref C_NothingBack) (.type "BaseException") = some true)
    (tC_NothingBack : PySem.W.typeIn K (.ref C_NothingBack) = some (.type "type"))
    (hC_NothingBack : PySem.W.hasDictIn K C_NothingBack = true)
    (mC_NothingBack : PySem.W.mroIn K C_NothingBack (.type "object") = some true)
    (ex0_NothingBack : PySem.W.excIn K C_NothingBack [.type "ValueError", .type "Exception", .type "BaseException", .type "object"] "ValueError.__new__" = true)
    (a_BadLine : PySem.W.nsIn K mainGlobals "BadLine" = some (some (.ref C_BadLine)))
    (x_BadLine : K.lookup C_BadLine = some (excClassObj nm_BadLine q_BadLine C_BadLine N_BadLine bs_BadLine (lineOf L) true sn_BadLine sub_BadLine ab_BadLine col_BadLine dd_BadLine x0_BadLine x1_BadLine x2_BadLine x3_BadLine x5_BadLine "ValueError.__new__"))
    (sa_BadLine : PySem.W.findIn K (.ref C_BadLine) "__setattr__" = some (some (.builtin "object.__setattr__")))
    (ga_BadLine : PySem.W.findIn K (.ref C_BadLine) "__getattribute__" = some (some (.builtin "BaseException.__getattribute__")))
    (gg_BadLine : PySem.W.findIn K (.ref C_BadLine) "__getattr__" = some none)
    (ca_BadLine : PySem.W.findIn K (.ref C_BadLine) "__class__" = some (some (.builtin "object.__class__")))
    (kC_BadLine : PySem.W.keepIn K (.ref C_BadLine) = true)
    (eC_BadLine : PySem.W.subIn K (.ref C_BadLine) (.type "BaseException") = some true)
    (tC_BadLine : PySem.W.typeIn K (.ref C_BadLine) = some (.type "type"))
    (hC_BadLine : PySem.W.hasDictIn K C_BadLine = true)
    (mC_BadLine : PySem.W.mroIn K C_BadLine (.type "object") = some true)
    (nf_BadLine_line : PySem.W.findIn K (.ref C_BadLine) "line" = some none)
    (a_BadLine___init__ : PySem.W.findIn K (.ref C_BadLine) "__init__" = some (some (.ref f_BadLine___init__)))
    (l_BadLine___init__ : K.lookup f_BadLine___init__ = some ⟨oc_BadLine___init__, od_BadLine___init__, .func (PySem.W.fnOf "__init__" "BadLine.__init__" (defArgs s_BadLine___init__) (defBody s_BadLine___init__) (defScope s_BadLine___init__) .none kV_BadLine___init__ dc_BadLine___init__ pm_BadLine___init__ an_BadLine___init__ cd_BadLine___init__ ct_BadLine___init__), sl_BadLine___init__⟩)
    (c_BadLine___init__ : PySem.W.codeIn K cd_BadLine___init__ "BadLine.__init__" = true)
    (k_BadLine___init__ : PySem.W.keepIn K (.ref f_BadLine___init__) = true)
    (t_BadLine___init__ : PySem.W.typeIn K (.ref f_BadLine___init__) = some (.type "function"))
    (a_LookError : PySem.W.nsIn K mainGlobals "LookError" = some (some (.ref L)))
    (i_LookError : PySem.W.isClsIn K L = true)
    (t_LookError : PySem.W.typeIn K (.ref L) = some (.type "type"))
    (o_get : PySem.W.specialIn K (.builtin "object.__class__") "__get__" = some (some (.builtin "getset_descriptor.__get__")))
    (o_tak : PySem.W.takesIn K (.builtin "object.__class__") = some true)
    (z_ValueError : PySem.W.nsIn K mainGlobals "ValueError" = some none)
    (z_enumerate : PySem.W.nsIn K mainGlobals "enumerate" = some none)
    (z_int : PySem.W.nsIn K mainGlobals "int" = some none)
    (z_isinstance : PySem.W.nsIn K mainGlobals "isinstance" = some none)
    (z_len : PySem.W.nsIn K mainGlobals "len" = some none)
    (z_range : PySem.W.nsIn K mainGlobals "range" = some none)
    (z_str : PySem.W.nsIn K mainGlobals "str" = some none)
    (nd : ([C_BadName, C_NameTaken, C_NoStep, C_NoFile, C_NoReader, C_NoRow, C_Clash, C_SameStep, C_SameFile, C_BadNumber, C_ZeroRing, C_BadItem, C_NotYet, C_NoSet, C_Barred, C_NotKept, C_NoRule, C_TooEarly, C_TooFar, C_BadGaps, C_EmptyRow, C_NothingBack, C_BadLine] : List Addr).Nodup)
    (nL : ∀ x ∈ ([C_BadName, C_NameTaken, C_NoStep, C_NoFile, C_NoReader, C_NoRow, C_Clash, C_SameStep, C_SameFile, C_BadNumber, C_ZeroRing, C_BadItem, C_NotYet, C_NoSet, C_Barred, C_NotKept, C_NoRule, C_TooEarly, C_TooFar, C_BadGaps, C_EmptyRow, C_NothingBack, C_BadLine] : List Addr), x ≠ L)
    : ∃ fd : FuncData, (∀ (s : Shared) (v : Value), BindsTo s fd ⟨[v], []⟩ [("_law_script", v)]) ∧ ∀ base : Heap, K.In base → base.Ns mainGlobals mg → FnOk P w K mg base CX0 6 fa fd ["_law_script"] (sp_end K) := by
  have e := (PySem.W.mg_of X G a_law).symm.trans hfa
  have e : f_law = fa := by injection e with e; injection e
  subst e
  have cl : ∀ c, c < 23 → Cl K L (([C_BadName, C_NameTaken, C_NoStep, C_NoFile, C_NoReader, C_NoRow, C_Clash, C_SameStep, C_SameFile, C_BadNumber, C_ZeroRing, C_BadItem, C_NotYet, C_NoSet, C_Barred, C_NotKept, C_NoRule, C_TooEarly, C_TooFar, C_BadGaps, C_EmptyRow, C_NothingBack, C_BadLine] : List Addr).getD c 0) := fun c hc => match c, hc with | 0, _ => cl_of x_BadName tC_BadName | 1, _ => cl_of x_NameTaken tC_NameTaken | 2, _ => cl_of x_NoStep tC_NoStep | 3, _ => cl_of x_NoFile tC_NoFile | 4, _ => cl_of x_NoReader tC_NoReader | 5, _ => cl_of x_NoRow tC_NoRow | 6, _ => cl_of x_Clash tC_Clash | 7, _ => cl_of x_SameStep tC_SameStep | 8, _ => cl_of x_SameFile tC_SameFile | 9, _ => cl_of x_BadNumber tC_BadNumber | 10, _ => cl_of x_ZeroRing tC_ZeroRing | 11, _ => cl_of x_BadItem tC_BadItem | 12, _ => cl_of x_NotYet tC_NotYet | 13, _ => cl_of x_NoSet tC_NoSet | 14, _ => cl_of x_Barred tC_Barred | 15, _ => cl_of x_NotKept tC_NotKept | 16, _ => cl_of x_NoRule tC_NoRule | 17, _ => cl_of x_TooEarly tC_TooEarly | 18, _ => cl_of x_TooFar tC_TooFar | 19, _ => cl_of x_BadGaps tC_BadGaps | 20, _ => cl_of x_EmptyRow tC_EmptyRow | 21, _ => cl_of x_NothingBack tC_NothingBack | 22, _ => cl_of x_BadLine tC_BadLine | n + 23, h => absurd h (by omega)
  have ex : ∀ c, c < 23 → L2.ExcC K (([C_BadName, C_NameTaken, C_NoStep, C_NoFile, C_NoReader, C_NoRow, C_Clash, C_SameStep, C_SameFile, C_BadNumber, C_ZeroRing, C_BadItem, C_NotYet, C_NoSet, C_Barred, C_NotKept, C_NoRule, C_TooEarly, C_TooFar, C_BadGaps, C_EmptyRow, C_NothingBack, C_BadLine] : List Addr).getD c 0) := fun c hc => match c, hc with | 0, _ => ⟨ga_BadName, gg_BadName, eC_BadName, hC_BadName, ca_BadName, o_get, o_tak, mC_BadName⟩ | 1, _ => ⟨ga_NameTaken, gg_NameTaken, eC_NameTaken, hC_NameTaken, ca_NameTaken, o_get, o_tak, mC_NameTaken⟩ | 2, _ => ⟨ga_NoStep, gg_NoStep, eC_NoStep, hC_NoStep, ca_NoStep, o_get, o_tak, mC_NoStep⟩ | 3, _ => ⟨ga_NoFile, gg_NoFile, eC_NoFile, hC_NoFile, ca_NoFile, o_get, o_tak, mC_NoFile⟩ | 4, _ => ⟨ga_NoReader, gg_NoReader, eC_NoReader, hC_NoReader, ca_NoReader, o_get, o_tak, mC_NoReader⟩ | 5, _ => ⟨ga_NoRow, gg_NoRow, eC_NoRow, hC_NoRow, ca_NoRow, o_get, o_tak, mC_NoRow⟩ | 6, _ => ⟨ga_Clash, gg_Clash, eC_Clash, hC_Clash, ca_Clash, o_get, o_tak, mC_Clash⟩ | 7, _ => ⟨ga_SameStep, gg_SameStep, eC_SameStep, hC_SameStep, ca_SameStep, o_get, o_tak, mC_SameStep⟩ | 8, _ => ⟨ga_SameFile, gg_SameFile, eC_SameFile, hC_SameFile, ca_SameFile, o_get, o_tak, mC_SameFile⟩ | 9, _ => ⟨ga_BadNumber, gg_BadNumber, eC_BadNumber, hC_BadNumber, ca_BadNumber, o_get, o_tak, mC_BadNumber⟩ | 10, _ => ⟨ga_ZeroRing, gg_ZeroRing, eC_ZeroRing, hC_ZeroRing, ca_ZeroRing, o_get, o_tak, mC_ZeroRing⟩ | 11, _ => ⟨ga_BadItem, gg_BadItem, eC_BadItem, hC_BadItem, ca_BadItem, o_get, o_tak, mC_BadItem⟩ | 12, _ => ⟨ga_NotYet, gg_NotYet, eC_NotYet, hC_NotYet, ca_NotYet, o_get, o_tak, mC_NotYet⟩ | 13, _ => ⟨ga_NoSet, gg_NoSet, eC_NoSet, hC_NoSet, ca_NoSet, o_get, o_tak, mC_NoSet⟩ | 14, _ => ⟨ga_Barred, gg_Barred, eC_Barred, hC_Barred, ca_Barred, o_get, o_tak, mC_Barred⟩ | 15, _ => ⟨ga_NotKept, gg_NotKept, eC_NotKept, hC_NotKept, ca_NotKept, o_get, o_tak, mC_NotKept⟩ | 16, _ => ⟨ga_NoRule, gg_NoRule, eC_NoRule, hC_NoRule, ca_NoRule, o_get, o_tak, mC_NoRule⟩ | 17, _ => ⟨ga_TooEarly, gg_TooEarly, eC_TooEarly, hC_TooEarly, ca_TooEarly, o_get, o_tak, mC_TooEarly⟩ | 18, _ => ⟨ga_TooFar, gg_TooFar, eC_TooFar, hC_TooFar, ca_TooFar, o_get, o_tak, mC_TooFar⟩ | 19, _ => ⟨ga_BadGaps, gg_BadGaps, eC_BadGaps, hC_BadGaps, ca_BadGaps, o_get, o_tak, mC_BadGaps⟩ | 20, _ => ⟨ga_EmptyRow, gg_EmptyRow, eC_EmptyRow, hC_EmptyRow, ca_EmptyRow, o_get, o_tak, mC_EmptyRow⟩ | 21, _ => ⟨ga_NothingBack, gg_NothingBack, eC_NothingBack, hC_NothingBack, ca_NothingBack, o_get, o_tak, mC_NothingBack⟩ | 22, _ => ⟨ga_BadLine, gg_BadLine, eC_BadLine, hC_BadLine, ca_BadLine, o_get, o_tak, mC_BadLine⟩ | n + 23, h => absurd h (by omega)
  have T : Tx K mg { e := fun n => ([C_BadName, C_NameTaken, C_NoStep, C_NoFile, C_NoReader, C_NoRow, C_Clash, C_SameStep, C_SameFile, C_BadNumber, C_ZeroRing, C_BadItem, C_NotYet, C_NoSet, C_Barred, C_NotKept, C_NoRule, C_TooEarly, C_TooFar, C_BadGaps, C_EmptyRow, C_NothingBack, C_BadLine] : List Addr).getD n 0, L := L, f__law_cell := f__law_cell, f__law_thing := f__law_thing, f__law_marks := f__law_marks, f__law_alone := f__law_alone, f__law_single := f__law_single, f__law_pairs := f__law_pairs, f_law := f_law, f_BadName___init__ := f_BadName___init__, f_NameTaken___init__ := f_NameTaken___init__, f_NoStep___init__ := f_NoStep___init__, f_NoFile___init__ := f_NoFile___init__, f_NoReader___init__ := f_NoReader___init__, f_NoRow___init__ := f_NoRow___init__, f_Clash___init__ := f_Clash___init__, f_SameStep___init__ := f_SameStep___init__, f_SameFile___init__ := f_SameFile___init__, f_BadNumber___init__ := f_BadNumber___init__, f_ZeroRing___init__ := f_ZeroRing___init__, f_BadItem___init__ := f_BadItem___init__, f_NotYet___init__ := f_NotYet___init__, f_NoSet___init__ := f_NoSet___init__, f_Barred___init__ := f_Barred___init__, f_NotKept___init__ := f_NotKept___init__, f_NoRule___init__ := f_NoRule___init__, f_TooEarly___init__ := f_TooEarly___init__, f_TooFar___init__ := f_TooFar___init__, f_BadLine___init__ := f_BadLine___init__, d__law_cell := (PySem.W.fnOf "_law_cell" "_law_cell" (defArgs s__law_cell) (defBody s__law_cell) (defScope s__law_cell) .none kV__law_cell dc__law_cell pm__law_cell an__law_cell cd__law_cell ct__law_cell), d__law_thing := (PySem.W.fnOf "_law_thing" "_law_thing" (defArgs s__law_thing) (defBody s__law_thing) (defScope s__law_thing) .none kV__law_thing dc__law_thing pm__law_thing an__law_thing cd__law_thing ct__law_thing), d__law_marks := (PySem.W.fnOf "_law_marks" "_law_marks" (defArgs s__law_marks) (defBody s__law_marks) (defScope s__law_marks) .none kV__law_marks dc__law_marks pm__law_marks an__law_marks cd__law_marks ct__law_marks), d__law_alone := (PySem.W.fnOf "_law_alone" "_law_alone" (defArgs s__law_alone) (defBody s__law_alone) (defScope s__law_alone) .none kV__law_alone dc__law_alone pm__law_alone an__law_alone cd__law_alone ct__law_alone), d__law_single := (PySem.W.fnOf "_law_single" "_law_single" (defArgs s__law_single) (defBody s__law_single) (defScope s__law_single) .none kV__law_single dc__law_single pm__law_single an__law_single cd__law_single ct__law_single), d__law_pairs := (PySem.W.fnOf "_law_pairs" "_law_pairs" (defArgs s__law_pairs) (defBody s__law_pairs) (defScope s__law_pairs) .none kV__law_pairs dc__law_pairs pm__law_pairs an__law_pairs cd__law_pairs ct__law_pairs), d_law := (PySem.W.fnOf "law" "law" (defArgs s_law) (defBody s_law) (defScope s_law) .none kV_law dc_law pm_law an_law cd_law ct_law), d_BadName___init__ := (PySem.W.fnOf "__init__" "BadName.__init__" (defArgs s_BadName___init__) (defBody s_BadName___init__) (defScope s_BadName___init__) .none kV_BadName___init__ dc_BadName___init__ pm_BadName___init__ an_BadName___init__ cd_BadName___init__ ct_BadName___init__), d_NameTaken___init__ := (PySem.W.fnOf "__init__" "NameTaken.__init__" (defArgs s_NameTaken___init__) (defBody s_NameTaken___init__) (defScope s_NameTaken___init__) .none kV_NameTaken___init__ dc_NameTaken___init__ pm_NameTaken___init__ an_NameTaken___init__ cd_NameTaken___init__ ct_NameTaken___init__), d_NoStep___init__ := (PySem.W.fnOf "__init__" "NoStep.__init__" (defArgs s_NoStep___init__) (defBody s_NoStep___init__) (defScope s_NoStep___init__) .none kV_NoStep___init__ dc_NoStep___init__ pm_NoStep___init__ an_NoStep___init__ cd_NoStep___init__ ct_NoStep___init__), d_NoFile___init__ := (PySem.W.fnOf "__init__" "NoFile.__init__" (defArgs s_NoFile___init__) (defBody s_NoFile___init__) (defScope s_NoFile___init__) .none kV_NoFile___init__ dc_NoFile___init__ pm_NoFile___init__ an_NoFile___init__ cd_NoFile___init__ ct_NoFile___init__), d_NoReader___init__ := (PySem.W.fnOf "__init__" "NoReader.__init__" (defArgs s_NoReader___init__) (defBody s_NoReader___init__) (defScope s_NoReader___init__) .none kV_NoReader___init__ dc_NoReader___init__ pm_NoReader___init__ an_NoReader___init__ cd_NoReader___init__ ct_NoReader___init__), d_NoRow___init__ := (PySem.W.fnOf "__init__" "NoRow.__init__" (defArgs s_NoRow___init__) (defBody s_NoRow___init__) (defScope s_NoRow___init__) .none kV_NoRow___init__ dc_NoRow___init__ pm_NoRow___init__ an_NoRow___init__ cd_NoRow___init__ ct_NoRow___init__), d_Clash___init__ := (PySem.W.fnOf "__init__" "Clash.__init__" (defArgs s_Clash___init__) (defBody s_Clash___init__) (defScope s_Clash___init__) .none kV_Clash___init__ dc_Clash___init__ pm_Clash___init__ an_Clash___init__ cd_Clash___init__ ct_Clash___init__), d_SameStep___init__ := (PySem.W.fnOf "__init__" "SameStep.__init__" (defArgs s_SameStep___init__) (defBody s_SameStep___init__) (defScope s_SameStep___init__) .none kV_SameStep___init__ dc_SameStep___init__ pm_SameStep___init__ an_SameStep___init__ cd_SameStep___init__ ct_SameStep___init__), d_SameFile___init__ := (PySem.W.fnOf "__init__" "SameFile.__init__" (defArgs s_SameFile___init__) (defBody s_SameFile___init__) (defScope s_SameFile___init__) .none kV_SameFile___init__ dc_SameFile___init__ pm_SameFile___init__ an_SameFile___init__ cd_SameFile___init__ ct_SameFile___init__), d_BadNumber___init__ := (PySem.W.fnOf "__init__" "BadNumber.__init__" (defArgs s_BadNumber___init__) (defBody s_BadNumber___init__) (defScope s_BadNumber___init__) .none kV_BadNumber___init__ dc_BadNumber___init__ pm_BadNumber___init__ an_BadNumber___init__ cd_BadNumber___init__ ct_BadNumber___init__), d_ZeroRing___init__ := (PySem.W.fnOf "__init__" "ZeroRing.__init__" (defArgs s_ZeroRing___init__) (defBody s_ZeroRing___init__) (defScope s_ZeroRing___init__) .none kV_ZeroRing___init__ dc_ZeroRing___init__ pm_ZeroRing___init__ an_ZeroRing___init__ cd_ZeroRing___init__ ct_ZeroRing___init__), d_BadItem___init__ := (PySem.W.fnOf "__init__" "BadItem.__init__" (defArgs s_BadItem___init__) (defBody s_BadItem___init__) (defScope s_BadItem___init__) .none kV_BadItem___init__ dc_BadItem___init__ pm_BadItem___init__ an_BadItem___init__ cd_BadItem___init__ ct_BadItem___init__), d_NotYet___init__ := (PySem.W.fnOf "__init__" "NotYet.__init__" (defArgs s_NotYet___init__) (defBody s_NotYet___init__) (defScope s_NotYet___init__) .none kV_NotYet___init__ dc_NotYet___init__ pm_NotYet___init__ an_NotYet___init__ cd_NotYet___init__ ct_NotYet___init__), d_NoSet___init__ := (PySem.W.fnOf "__init__" "NoSet.__init__" (defArgs s_NoSet___init__) (defBody s_NoSet___init__) (defScope s_NoSet___init__) .none kV_NoSet___init__ dc_NoSet___init__ pm_NoSet___init__ an_NoSet___init__ cd_NoSet___init__ ct_NoSet___init__), d_Barred___init__ := (PySem.W.fnOf "__init__" "Barred.__init__" (defArgs s_Barred___init__) (defBody s_Barred___init__) (defScope s_Barred___init__) .none kV_Barred___init__ dc_Barred___init__ pm_Barred___init__ an_Barred___init__ cd_Barred___init__ ct_Barred___init__), d_NotKept___init__ := (PySem.W.fnOf "__init__" "NotKept.__init__" (defArgs s_NotKept___init__) (defBody s_NotKept___init__) (defScope s_NotKept___init__) .none kV_NotKept___init__ dc_NotKept___init__ pm_NotKept___init__ an_NotKept___init__ cd_NotKept___init__ ct_NotKept___init__), d_NoRule___init__ := (PySem.W.fnOf "__init__" "NoRule.__init__" (defArgs s_NoRule___init__) (defBody s_NoRule___init__) (defScope s_NoRule___init__) .none kV_NoRule___init__ dc_NoRule___init__ pm_NoRule___init__ an_NoRule___init__ cd_NoRule___init__ ct_NoRule___init__), d_TooEarly___init__ := (PySem.W.fnOf "__init__" "TooEarly.__init__" (defArgs s_TooEarly___init__) (defBody s_TooEarly___init__) (defScope s_TooEarly___init__) .none kV_TooEarly___init__ dc_TooEarly___init__ pm_TooEarly___init__ an_TooEarly___init__ cd_TooEarly___init__ ct_TooEarly___init__), d_TooFar___init__ := (PySem.W.fnOf "__init__" "TooFar.__init__" (defArgs s_TooFar___init__) (defBody s_TooFar___init__) (defScope s_TooFar___init__) .none kV_TooFar___init__ dc_TooFar___init__ pm_TooFar___init__ an_TooFar___init__ cd_TooFar___init__ ct_TooFar___init__), d_BadLine___init__ := (PySem.W.fnOf "__init__" "BadLine.__init__" (defArgs s_BadLine___init__) (defBody s_BadLine___init__) (defScope s_BadLine___init__) .none kV_BadLine___init__ dc_BadLine___init__ pm_BadLine___init__ an_BadLine___init__ cd_BadLine___init__ ct_BadLine___init__) } :=
    { n_ValueError := PySem.W.mg_none_of X G z_ValueError,
      n_enumerate := PySem.W.mg_none_of X G z_enumerate,
      n_int := PySem.W.mg_none_of X G z_int,
      n_isinstance := PySem.W.mg_none_of X G z_isinstance,
      n_len := PySem.W.mg_none_of X G z_len,
      n_range := PySem.W.mg_none_of X G z_range,
      n_str := PySem.W.mg_none_of X G z_str,
      F__law_cell := fun_mk (st := s__law_cell) l__law_cell c__law_cell k__law_cell,
      g__law_cell := PySem.W.mg_of X G a__law_cell,
      F__law_thing := fun_mk (st := s__law_thing) l__law_thing c__law_thing k__law_thing,
      g__law_thing := PySem.W.mg_of X G a__law_thing,
      F__law_marks := fun_mk (st := s__law_marks) l__law_marks c__law_marks k__law_marks,
      g__law_marks := PySem.W.mg_of X G a__law_marks,
      F__law_alone := fun_mk (st := s__law_alone) l__law_alone c__law_alone k__law_alone,
      g__law_alone := PySem.W.mg_of X G a__law_alone,
      F__law_single := fun_mk (st := s__law_single) l__law_single c__law_single k__law_single,
      g__law_single := PySem.W.mg_of X G a__law_single,
      F__law_pairs := fun_mk (st := s__law_pairs) l__law_pairs c__law_pairs k__law_pairs,
      g__law_pairs := PySem.W.mg_of X G a__law_pairs,
      F_law := fun_mk (st := s_law) l_law c_law k_law,
      g_law := PySem.W.mg_of X G a_law,
      F_BadName___init__ := fun_mk (st := s_BadName___init__) l_BadName___init__ c_BadName___init__ k_BadName___init__,
      oex_BadName := ⟨⟨_, _, _, _, _, _, _, _, _, _, _, _, _, _, _, x_BadName, refs_line L⟩, sa_BadName, eC_BadName, tC_BadName, kC_BadName⟩,
      ini_BadName := a_BadName___init__,
      tin_BadName := t_BadName___init__,
      xf_BadName := ⟨ga_BadName, gg_BadName, eC_BadName, hC_BadName⟩,
      nf_BadName_name := nf_BadName_name,
      F_NameTaken___init__ := fun_mk (st := s_NameTaken___init__) l_NameTaken___init__ c_NameTaken___init__ k_NameTaken___init__,
      oex_NameTaken := ⟨⟨_, _, _, _, _, _, _, _, _, _, _, _, _, _, _, x_NameTaken, refs_line L⟩, sa_NameTaken, eC_NameTaken, tC_NameTaken, kC_NameTaken⟩,
      ini_NameTaken := a_NameTaken___init__,
      tin_NameTaken := t_NameTaken___init__,
      xf_NameTaken := ⟨ga_NameTaken, gg_NameTaken, eC_NameTaken, hC_NameTaken⟩,
      nf_NameTaken_name := nf_NameTaken_name,
      F_NoStep___init__ := fun_mk (st := s_NoStep___init__) l_NoStep___init__ c_NoStep___init__ k_NoStep___init__,
      oex_NoStep := ⟨⟨_, _, _, _, _, _, _, _, _, _, _, _, _, _, _, x_NoStep, refs_line L⟩, sa_NoStep, eC_NoStep, tC_NoStep, kC_NoStep⟩,
      ini_NoStep := a_NoStep___init__,
      tin_NoStep := t_NoStep___init__,
      xf_NoStep := ⟨ga_NoStep, gg_NoStep, eC_NoStep, hC_NoStep⟩,
      nf_NoStep_name := nf_NoStep_name,
      F_NoFile___init__ := fun_mk (st := s_NoFile___init__) l_NoFile___init__ c_NoFile___init__ k_NoFile___init__,
      oex_NoFile := ⟨⟨_, _, _, _, _, _, _, _, _, _, _, _, _, _, _, x_NoFile, refs_line L⟩, sa_NoFile, eC_NoFile, tC_NoFile, kC_NoFile⟩,
      ini_NoFile := a_NoFile___init__,
      tin_NoFile := t_NoFile___init__,
      xf_NoFile := ⟨ga_NoFile, gg_NoFile, eC_NoFile, hC_NoFile⟩,
      nf_NoFile_name := nf_NoFile_name,
      F_NoReader___init__ := fun_mk (st := s_NoReader___init__) l_NoReader___init__ c_NoReader___init__ k_NoReader___init__,
      oex_NoReader := ⟨⟨_, _, _, _, _, _, _, _, _, _, _, _, _, _, _, x_NoReader, refs_line L⟩, sa_NoReader, eC_NoReader, tC_NoReader, kC_NoReader⟩,
      ini_NoReader := a_NoReader___init__,
      tin_NoReader := t_NoReader___init__,
      xf_NoReader := ⟨ga_NoReader, gg_NoReader, eC_NoReader, hC_NoReader⟩,
      nf_NoReader_name := nf_NoReader_name,
      F_NoRow___init__ := fun_mk (st := s_NoRow___init__) l_NoRow___init__ c_NoRow___init__ k_NoRow___init__,
      oex_NoRow := ⟨⟨_, _, _, _, _, _, _, _, _, _, _, _, _, _, _, x_NoRow, refs_line L⟩, sa_NoRow, eC_NoRow, tC_NoRow, kC_NoRow⟩,
      ini_NoRow := a_NoRow___init__,
      tin_NoRow := t_NoRow___init__,
      xf_NoRow := ⟨ga_NoRow, gg_NoRow, eC_NoRow, hC_NoRow⟩,
      nf_NoRow_name := nf_NoRow_name,
      F_Clash___init__ := fun_mk (st := s_Clash___init__) l_Clash___init__ c_Clash___init__ k_Clash___init__,
      oex_Clash := ⟨⟨_, _, _, _, _, _, _, _, _, _, _, _, _, _, _, x_Clash, refs_line L⟩, sa_Clash, eC_Clash, tC_Clash, kC_Clash⟩,
      ini_Clash := a_Clash___init__,
      tin_Clash := t_Clash___init__,
      xf_Clash := ⟨ga_Clash, gg_Clash, eC_Clash, hC_Clash⟩,
      nf_Clash_name := nf_Clash_name,
      F_SameStep___init__ := fun_mk (st := s_SameStep___init__) l_SameStep___init__ c_SameStep___init__ k_SameStep___init__,
      oex_SameStep := ⟨⟨_, _, _, _, _, _, _, _, _, _, _, _, _, _, _, x_SameStep, refs_line L⟩, sa_SameStep, eC_SameStep, tC_SameStep, kC_SameStep⟩,
      ini_SameStep := a_SameStep___init__,
      tin_SameStep := t_SameStep___init__,
      xf_SameStep := ⟨ga_SameStep, gg_SameStep, eC_SameStep, hC_SameStep⟩,
      nf_SameStep_name := nf_SameStep_name,
      F_SameFile___init__ := fun_mk (st := s_SameFile___init__) l_SameFile___init__ c_SameFile___init__ k_SameFile___init__,
      oex_SameFile := ⟨⟨_, _, _, _, _, _, _, _, _, _, _, _, _, _, _, x_SameFile, refs_line L⟩, sa_SameFile, eC_SameFile, tC_SameFile, kC_SameFile⟩,
      ini_SameFile := a_SameFile___init__,
      tin_SameFile := t_SameFile___init__,
      xf_SameFile := ⟨ga_SameFile, gg_SameFile, eC_SameFile, hC_SameFile⟩,
      nf_SameFile_name := nf_SameFile_name,
      F_BadNumber___init__ := fun_mk (st := s_BadNumber___init__) l_BadNumber___init__ c_BadNumber___init__ k_BadNumber___init__,
      oex_BadNumber := ⟨⟨_, _, _, _, _, _, _, _, _, _, _, _, _, _, _, x_BadNumber, refs_line L⟩, sa_BadNumber, eC_BadNumber, tC_BadNumber, kC_BadNumber⟩,
      ini_BadNumber := a_BadNumber___init__,
      tin_BadNumber := t_BadNumber___init__,
      xf_BadNumber := ⟨ga_BadNumber, gg_BadNumber, eC_BadNumber, hC_BadNumber⟩,
      nf_BadNumber_value := nf_BadNumber_value,
      F_ZeroRing___init__ := fun_mk (st := s_ZeroRing___init__) l_ZeroRing___init__ c_ZeroRing___init__ k_ZeroRing___init__,
      oex_ZeroRing := ⟨⟨_, _, _, _, _, _, _, _, _, _, _, _, _, _, _, x_ZeroRing, refs_line L⟩, sa_ZeroRing, eC_ZeroRing, tC_ZeroRing, kC_ZeroRing⟩,
      ini_ZeroRing := a_ZeroRing___init__,
      tin_ZeroRing := t_ZeroRing___init__,
      xf_ZeroRing := ⟨ga_ZeroRing, gg_ZeroRing, eC_ZeroRing, hC_ZeroRing⟩,
      nf_ZeroRing_members := nf_ZeroRing_members,
      F_BadItem___init__ := fun_mk (st := s_BadItem___init__) l_BadItem___init__ c_BadItem___init__ k_BadItem___init__,
      oex_BadItem := ⟨⟨_, _, _, _, _, _, _, _, _, _, _, _, _, _, _, x_BadItem, refs_line L⟩, sa_BadItem, eC_BadItem, tC_BadItem, kC_BadItem⟩,
      ini_BadItem := a_BadItem___init__,
      tin_BadItem := t_BadItem___init__,
      xf_BadItem := ⟨ga_BadItem, gg_BadItem, eC_BadItem, hC_BadItem⟩,
      nf_BadItem_place := nf_BadItem_place,
      F_NotYet___init__ := fun_mk (st := s_NotYet___init__) l_NotYet___init__ c_NotYet___init__ k_NotYet___init__,
      oex_NotYet := ⟨⟨_, _, _, _, _, _, _, _, _, _, _, _, _, _, _, x_NotYet, refs_line L⟩, sa_NotYet, eC_NotYet, tC_NotYet, kC_NotYet⟩,
      ini_NotYet := a_NotYet___init__,
      tin_NotYet := t_NotYet___init__,
      xf_NotYet := ⟨ga_NotYet, gg_NotYet, eC_NotYet, hC_NotYet⟩,
      nf_NotYet_place := nf_NotYet_place,
      nf_NotYet_step := nf_NotYet_step,
      F_NoSet___init__ := fun_mk (st := s_NoSet___init__) l_NoSet___init__ c_NoSet___init__ k_NoSet___init__,
      oex_NoSet := ⟨⟨_, _, _, _, _, _, _, _, _, _, _, _, _, _, _, x_NoSet, refs_line L⟩, sa_NoSet, eC_NoSet, tC_NoSet, kC_NoSet⟩,
      ini_NoSet := a_NoSet___init__,
      tin_NoSet := t_NoSet___init__,
      xf_NoSet := ⟨ga_NoSet, gg_NoSet, eC_NoSet, hC_NoSet⟩,
      nf_NoSet_members := nf_NoSet_members,
      F_Barred___init__ := fun_mk (st := s_Barred___init__) l_Barred___init__ c_Barred___init__ k_Barred___init__,
      oex_Barred := ⟨⟨_, _, _, _, _, _, _, _, _, _, _, _, _, _, _, x_Barred, refs_line L⟩, sa_Barred, eC_Barred, tC_Barred, kC_Barred⟩,
      ini_Barred := a_Barred___init__,
      tin_Barred := t_Barred___init__,
      xf_Barred := ⟨ga_Barred, gg_Barred, eC_Barred, hC_Barred⟩,
      nf_Barred_pieces := nf_Barred_pieces,
      F_NotKept___init__ := fun_mk (st := s_NotKept___init__) l_NotKept___init__ c_NotKept___init__ k_NotKept___init__,
      oex_NotKept := ⟨⟨_, _, _, _, _, _, _, _, _, _, _, _, _, _, _, x_NotKept, refs_line L⟩, sa_NotKept, eC_NotKept, tC_NotKept, kC_NotKept⟩,
      ini_NotKept := a_NotKept___init__,
      tin_NotKept := t_NotKept___init__,
      xf_NotKept := ⟨ga_NotKept, gg_NotKept, eC_NotKept, hC_NotKept⟩,
      nf_NotKept_first := nf_NotKept_first,
      nf_NotKept_second := nf_NotKept_second,
      F_NoRule___init__ := fun_mk (st := s_NoRule___init__) l_NoRule___init__ c_NoRule___init__ k_NoRule___init__,
      oex_NoRule := ⟨⟨_, _, _, _, _, _, _, _, _, _, _, _, _, _, _, x_NoRule, refs_line L⟩, sa_NoRule, eC_NoRule, tC_NoRule, kC_NoRule⟩,
      ini_NoRule := a_NoRule___init__,
      tin_NoRule := t_NoRule___init__,
      xf_NoRule := ⟨ga_NoRule, gg_NoRule, eC_NoRule, hC_NoRule⟩,
      nf_NoRule_first := nf_NoRule_first,
      nf_NoRule_second := nf_NoRule_second,
      F_TooEarly___init__ := fun_mk (st := s_TooEarly___init__) l_TooEarly___init__ c_TooEarly___init__ k_TooEarly___init__,
      oex_TooEarly := ⟨⟨_, _, _, _, _, _, _, _, _, _, _, _, _, _, _, x_TooEarly, refs_line L⟩, sa_TooEarly, eC_TooEarly, tC_TooEarly, kC_TooEarly⟩,
      ini_TooEarly := a_TooEarly___init__,
      tin_TooEarly := t_TooEarly___init__,
      xf_TooEarly := ⟨ga_TooEarly, gg_TooEarly, eC_TooEarly, hC_TooEarly⟩,
      nf_TooEarly_place := nf_TooEarly_place,
      F_TooFar___init__ := fun_mk (st := s_TooFar___init__) l_TooFar___init__ c_TooFar___init__ k_TooFar___init__,
      oex_TooFar := ⟨⟨_, _, _, _, _, _, _, _, _, _, _, _, _, _, _, x_TooFar, refs_line L⟩, sa_TooFar, eC_TooFar, tC_TooFar, kC_TooFar⟩,
      ini_TooFar := a_TooFar___init__,
      tin_TooFar := t_TooFar___init__,
      xf_TooFar := ⟨ga_TooFar, gg_TooFar, eC_TooFar, hC_TooFar⟩,
      nf_TooFar_first := nf_TooFar_first,
      nf_TooFar_second := nf_TooFar_second,
      F_BadLine___init__ := fun_mk (st := s_BadLine___init__) l_BadLine___init__ c_BadLine___init__ k_BadLine___init__,
      oex_BadLine := ⟨⟨_, _, _, _, _, _, _, _, _, _, _, _, _, _, _, x_BadLine, refs_line L⟩, sa_BadLine, eC_BadLine, tC_BadLine, kC_BadLine⟩,
      ini_BadLine := a_BadLine___init__,
      tin_BadLine := t_BadLine___init__,
      xf_BadLine := ⟨ga_BadLine, gg_BadLine, eC_BadLine, hC_BadLine⟩,
      nf_BadLine_line := nf_BadLine_line,
      g_BadName := PySem.W.mg_of X G a_BadName,
      g_NameTaken := PySem.W.mg_of X G a_NameTaken,
      g_NoStep := PySem.W.mg_of X G a_NoStep,
      g_NoFile := PySem.W.mg_of X G a_NoFile,
      g_NoReader := PySem.W.mg_of X G a_NoReader,
      g_NoRow := PySem.W.mg_of X G a_NoRow,
      g_Clash := PySem.W.mg_of X G a_Clash,
      g_SameStep := PySem.W.mg_of X G a_SameStep,
      g_SameFile := PySem.W.mg_of X G a_SameFile,
      g_BadNumber := PySem.W.mg_of X G a_BadNumber,
      g_ZeroRing := PySem.W.mg_of X G a_ZeroRing,
      g_BadItem := PySem.W.mg_of X G a_BadItem,
      g_NotYet := PySem.W.mg_of X G a_NotYet,
      g_NoSet := PySem.W.mg_of X G a_NoSet,
      g_Barred := PySem.W.mg_of X G a_Barred,
      g_NotKept := PySem.W.mg_of X G a_NotKept,
      g_NoRule := PySem.W.mg_of X G a_NoRule,
      g_TooEarly := PySem.W.mg_of X G a_TooEarly,
      g_TooFar := PySem.W.mg_of X G a_TooFar,
      g_BadGaps := PySem.W.mg_of X G a_BadGaps,
      g_EmptyRow := PySem.W.mg_of X G a_EmptyRow,
      g_NothingBack := PySem.W.mg_of X G a_NothingBack,
      g_BadLine := PySem.W.mg_of X G a_BadLine,
      ex0_BadGaps := ex0_BadGaps,
      kp_BadGaps := kC_BadGaps,
      ex0_EmptyRow := ex0_EmptyRow,
      kp_EmptyRow := kC_EmptyRow,
      ex0_NothingBack := ex0_NothingBack,
      kp_NothingBack := kC_NothingBack,
      g_LookError := PySem.W.mg_of X G a_LookError,
      ex := ex, kit := fun c j hc hj => ((cl c hc).kit (cl j hj) (nL _ (getD_mem hj))).trans (congrArg some (decide_eq_decide.mpr (getD_inj nd hc hj))), kitL := fun c hc => (cl c hc).kitL i_LookError t_LookError, kitV := fun c hc => (cl c hc).kitV }
  exact ⟨_, fun s v => .of_eq rfl, fun base _ _ => (ok_law (P := P) (w := w) (base := base) T).imp fun vs H Q E h => h⟩
end Lk
open PySem PySem.W PyProof.Rows in
set_option maxRecDepth 100000 in
set_option maxHeartbeats 0 in
theorem PySem.Challenge.cw_lookrows_k01_errors_made_holds : PySem.Challenge.rw_lookrows_k01_errors_made.Holds := by
  w_on; o_law; k_head; (case hw => w_witness2)
  k_fill
  refine L2.walk_ofK (l := PySem.Challenge.rw_lookrows_k01_errors_made) (n := 63) (k := 6) (x := "_law_script") (CX := L2.CX0) (sp := Lk.sp_end) rfl (by decide) rfl ⟨rfl, by decide, by decide⟩ (fun w h Y => PySem.W.kIn_of Y) ?F (fun K H a ns hl _ hS => ⟨a, ns, rfl, hS, hl, fun H' _ => rfl⟩) (fun _ _ _ _ z => z)
  case F =>
    intro w mg fa h KX G hmg
    refine' Lk.all_mk KX G hmg ?a__law_cell ?l__law_cell ?c__law_cell ?k__law_cell ?a__law_thing ?l__law_thing ?c__law_thing ?k__law_thing ?a__law_marks ?l__law_marks ?c__law_marks ?k__law_marks ?a__law_alone ?l__law_alone ?c__law_alone ?k__law_alone ?a__law_single ?l__law_single ?c__law_single ?k__law_single ?a__law_pairs ?l__law_pairs ?c__law_pairs ?k__law_pairs ?a_law ?l_law ?c_law ?k_law ?a_BadName ?x_BadName ?sa_BadName ?ga_BadName ?gg_BadName ?ca_BadName ?kC_BadName ?eC_BadName ?tC_BadName ?hC_BadName ?mC_BadName ?nf_BadName_name ?a_BadName___init__ ?l_BadName___init__ ?c_BadName___init__ ?k_BadName___init__ ?t_BadName___init__ ?a_NameTaken ?x_NameTaken ?sa_NameTaken ?ga_NameTaken ?gg_NameTaken ?ca_NameTaken ?kC_NameTaken ?eC_NameTaken ?tC_NameTaken ?hC_NameTaken ?mC_NameTaken ?nf_NameTaken_name ?a_NameTaken___init__ ?l_NameTaken___init__ ?c_NameTaken___init__ ?k_NameTaken___init__ ?t_NameTaken___init__ ?a_NoStep ?x_NoStep ?sa_NoStep ?ga_NoStep ?gg_NoStep ?ca_NoStep ?kC_NoStep ?eC_NoStep ?tC_NoStep ?hC_NoStep ?mC_NoStep ?nf_NoStep_name ?a_NoStep___init__ ?l_NoStep___init__ ?c_NoStep___init__ ?k_NoStep___init__ ?t_NoStep___init__ ?a_NoFile ?x_NoFile ?sa_NoFile ?ga_NoFile ?gg_NoFile ?ca_NoFile ?kC_NoFile ?eC_NoFile ?tC_NoFile ?hC_NoFile ?mC_NoFile ?nf_NoFile_name ?a_NoFile___init__ ?l_NoFile___init__ ?c_NoFile___init__ ?k_NoFile___init__ ?t_NoFile___init__ ?a_NoReader ?x_NoReader ?sa_NoReader ?ga_NoReader ?gg_NoReader ?ca_NoReader ?kC_NoReader ?eC_NoReader ?tC_NoReader ?hC_NoReader ?mC_NoReader ?nf_NoReader_name ?a_NoReader___init__ ?l_NoReader___init__ ?c_NoReader___init__ ?k_NoReader___init__ ?t_NoReader___init__ ?a_NoRow ?x_NoRow ?sa_NoRow ?ga_NoRow ?gg_NoRow ?ca_NoRow ?kC_NoRow ?eC_NoRow ?tC_NoRow ?hC_NoRow ?mC_NoRow ?nf_NoRow_name ?a_NoRow___init__ ?l_NoRow___init__ ?c_NoRow___init__ ?k_NoRow___init__ ?t_NoRow___init__ ?a_Clash ?x_Clash ?sa_Clash ?ga_Clash ?gg_Clash ?ca_Clash ?kC_Clash ?eC_Clash ?tC_Clash ?hC_Clash ?mC_Clash ?nf_Clash_name ?a_Clash___init__ ?l_Clash___init__ ?c_Clash___init__ ?k_Clash___init__ ?t_Clash___init__ ?a_SameStep ?x_SameStep ?sa_SameStep ?ga_SameStep ?gg_SameStep ?ca_SameStep ?kC_SameStep ?eC_SameStep ?tC_SameStep ?hC_SameStep ?mC_SameStep ?nf_SameStep_name ?a_SameStep___init__ ?l_SameStep___init__ ?c_SameStep___init__ ?k_SameStep___init__ ?t_SameStep___init__ ?a_SameFile ?x_SameFile ?sa_SameFile ?ga_SameFile ?gg_SameFile ?ca_SameFile ?kC_SameFile ?eC_SameFile ?tC_SameFile ?hC_SameFile ?mC_SameFile ?nf_SameFile_name ?a_SameFile___init__ ?l_SameFile___init__ ?c_SameFile___init__ ?k_SameFile___init__ ?t_SameFile___init__ ?a_BadNumber ?x_BadNumber ?sa_BadNumber ?ga_BadNumber ?gg_BadNumber ?ca_BadNumber ?kC_BadNumber ?eC_BadNumber ?tC_BadNumber ?hC_BadNumber ?mC_BadNumber ?nf_BadNumber_value ?a_BadNumber___init__ ?l_BadNumber___init__ ?c_BadNumber___init__ ?k_BadNumber___init__ ?t_BadNumber___init__ ?a_ZeroRing ?x_ZeroRing ?sa_ZeroRing ?ga_ZeroRing ?gg_ZeroRing ?ca_ZeroRing ?kC_ZeroRing ?eC_ZeroRing ?tC_ZeroRing ?hC_ZeroRing ?mC_ZeroRing ?nf_ZeroRing_members ?a_ZeroRing___init__ ?l_ZeroRing___init__ ?c_ZeroRing___init__ ?k_ZeroRing___init__ ?t_ZeroRing___init__ ?a_BadItem ?x_BadItem ?sa_BadItem ?ga_BadItem ?gg_BadItem ?ca_BadItem ?kC_BadItem ?eC_BadItem ?tC_BadItem ?hC_BadItem ?mC_BadItem ?nf_BadItem_place ?a_BadItem___init__ ?l_BadItem___init__ ?c_BadItem___init__ ?k_BadItem___init__ ?t_BadItem___init__ ?a_NotYet ?x_NotYet ?sa_NotYet ?ga_NotYet ?gg_NotYet ?ca_NotYet ?kC_NotYet ?eC_NotYet ?tC_NotYet ?hC_NotYet ?mC_NotYet ?nf_NotYet_place ?nf_NotYet_step ?a_NotYet___init__ ?l_NotYet___init__ ?c_NotYet___init__ ?k_NotYet___init__ ?t_NotYet___init__ ?a_NoSet ?x_NoSet ?sa_NoSet ?ga_NoSet ?gg_NoSet ?ca_NoSet ?kC_NoSet ?eC_NoSet ?tC_NoSet ?hC_NoSet ?mC_NoSet ?nf_NoSet_members ?a_NoSet___init__ ?l_NoSet___init__ ?c_NoSet___init__ ?k_NoSet___init__ ?t_NoSet___init__ ?a_Barred ?x_Barred ?sa_Barred ?ga_Barred ?gg_Barred ?ca_Barred ?kC_Barred ?eC_Barred ?tC_Barred ?hC_Barred ?mC_Barred ?nf_Barred_pieces ?a_Barred___init__ ?l_Barred___init__ ?c_Barred___init__ ?k_Barred___init__ ?t_Barred___init__ ?a_NotKept ?x_NotKept ?sa_NotKept ?ga_NotKept ?gg_NotKept ?ca_NotKept ?kC_NotKept ?eC_NotKept ?tC_NotKept ?hC_NotKept ?mC_NotKept ?nf_NotKept_first ?nf_NotKept_second ?a_NotKept___init__ ?l_NotKept___init__ ?c_NotKept___init__ ?k_NotKept___init__ ?t_NotKept___init__ ?a_NoRule ?x_NoRule ?sa_NoRule ?ga_NoRule ?gg_NoRule ?ca_NoRule ?kC_NoRule ?eC_NoRule ?tC_NoRule ?hC_NoRule ?mC_NoRule ?nf_NoRule_first ?nf_NoRule_second ?a_NoRule___init__ ?l_NoRule___init__ ?c_NoRule___init__ ?k_NoRule___init__ ?t_NoRule___init__ ?a_TooEarly ?x_TooEarly ?sa_TooEarly ?ga_TooEarly ?gg_TooEarly ?ca_TooEarly ?kC_TooEarly ?eC_TooEarly ?tC_TooEarly ?hC_TooEarly ?mC_TooEarly ?nf_TooEarly_place ?a_TooEarly___init__ ?l_TooEarly___init__ ?c_TooEarly___init__ ?k_TooEarly___init__ ?t_TooEarly___init__ ?a_TooFar ?x_TooFar ?sa_TooFar ?ga_TooFar ?gg_TooFar ?ca_TooFar ?kC_TooFar ?eC_TooFar ?tC_TooFar ?hC_TooFar ?mC_TooFar ?nf_TooFar_first ?nf_TooFar_second ?a_TooFar___init__ ?l_TooFar___init__ ?c_TooFar___init__ ?k_TooFar___init__ ?t_TooFar___init__ ?a_BadGaps ?x_BadGaps ?sa_BadGaps ?ga_BadGaps ?gg_BadGaps ?ca_BadGaps ?kC_BadGaps ?eC_BadGaps ?tC_BadGaps ?hC_BadGaps ?mC_BadGaps ?ex0_BadGaps ?a_EmptyRow ?x_EmptyRow ?sa_EmptyRow ?ga_EmptyRow ?gg_EmptyRow ?ca_EmptyRow ?kC_EmptyRow ?eC_EmptyRow ?tC_EmptyRow ?hC_EmptyRow ?mC_EmptyRow ?ex0_EmptyRow ?a_NothingBack ?x_NothingBack ?sa_NothingBack ?ga_NothingBack ?gg_NothingBack ?ca_NothingBack ?kC_NothingBack ?eC_NothingBack ?tC_NothingBack ?hC_NothingBack ?mC_NothingBack ?ex0_NothingBack ?a_BadLine ?x_BadLine ?sa_BadLine ?ga_BadLine ?gg_BadLine ?ca_BadLine ?kC_BadLine ?eC_BadLine ?tC_BadLine ?hC_BadLine ?mC_BadLine ?nf_BadLine_line ?a_BadLine___init__ ?l_BadLine___init__ ?c_BadLine___init__ ?k_BadLine___init__ ?t_BadLine___init__ ?a_LookError ?i_LookError ?t_LookError ?o_get ?o_tak ?z_ValueError ?z_enumerate ?z_int ?z_isinstance ?z_len ?z_range ?z_str ?nd ?nL
    (case a__law_cell => k_is)
    (case l__law_cell => k_is)
    (case c__law_cell => k_is)
    (case k__law_cell => k_is)
    (case a__law_thing => k_is)
    (case l__law_thing => k_is)
    (case c__law_thing => k_is)
    (case k__law_thing => k_is)
    (case a__law_marks => k_is)
    (case l__law_marks => k_is)
    (case c__law_marks => k_is)
    (case k__law_marks => k_is)
    (case a__law_alone => k_is)
    (case l__law_alone => k_is)
    (case c__law_alone => k_is)
    (case k__law_alone => k_is)
    (case a__law_single => k_is)
    (case l__law_single => k_is)
    (case c__law_single => k_is)
    (case k__law_single => k_is)
    (case a__law_pairs => k_is)
    (case l__law_pairs => k_is)
    (case c__law_pairs => k_is)
    (case k__law_pairs => k_is)
    (case a_law => k_is)
    (case l_law => k_is)
    (case c_law => k_is)
    (case k_law => k_is)
    (case a_BadName => k_is)
    (case x_BadName => k_is)
    (case sa_BadName => k_is)
    (case ga_BadName => k_is)
    (case gg_BadName => k_is)
    (case ca_BadName => k_is)
    (case kC_BadName => k_is)
    (case eC_BadName => k_is)
    (case tC_BadName => k_is)
    (case hC_BadName => k_is)
    (case mC_BadName => k_is)
    (case nf_BadName_name => k_is)
    (case a_BadName___init__ => k_is)
    (case l_BadName___init__ => k_is)
    (case c_BadName___init__ => k_is)
    (case k_BadName___init__ => k_is)
    (case t_BadName___init__ => k_is)
    (case a_NameTaken => k_is)
    (case x_NameTaken => k_is)
    (case sa_NameTaken => k_is)
    (case ga_NameTaken => k_is)
    (case gg_NameTaken => k_is)
    (case ca_NameTaken => k_is)
    (case kC_NameTaken => k_is)
    (case eC_NameTaken => k_is)
    (case tC_NameTaken => k_is)
    (case hC_NameTaken => k_is)
    (case mC_NameTaken => k_is)
    (case nf_NameTaken_name => k_is)
    (case a_NameTaken___init__ => k_is)
    (case l_NameTaken___init__ => k_is)
    (case c_NameTaken___init__ => k_is)
    (case k_NameTaken___init__ => k_is)
    (case t_NameTaken___init__ => k_is)
    (case a_NoStep => k_is)
    (case x_NoStep => k_is)
    (case sa_NoStep => k_is)
    (case ga_NoStep => k_is)
    (case gg_NoStep => k_is)
    (case ca_NoStep => k_is)
    (case kC_NoStep => k_is)
    (case eC_NoStep => k_is)
    (case tC_NoStep => k_is)
    (case hC_NoStep => k_is)
    (case mC_NoStep => k_is)
    (case nf_NoStep_name => k_is)
    (case a_NoStep___init__ => k_is)
    (case l_NoStep___init__ => k_is)
    (case c_NoStep___init__ => k_is)
    (case k_NoStep___init__ => k_is)
    (case t_NoStep___init__ => k_is)
    (case a_NoFile => k_is)
    (case x_NoFile => k_is)
    (case sa_NoFile => k_is)
    (case ga_NoFile => k_is)
    (case gg_NoFile => k_is)
    (case ca_NoFile => k_is)
    (case kC_NoFile => k_is)
    (case eC_NoFile => k_is)
    (case tC_NoFile => k_is)
    (case hC_NoFile => k_is)
    (case mC_NoFile => k_is)
    (case nf_NoFile_name => k_is)
    (case a_NoFile___init__ => k_is)
    (case l_NoFile___init__ => k_is)
    (case c_NoFile___init__ => k_is)
    (case k_NoFile___init__ => k_is)
    (case t_NoFile___init__ => k_is)
    (case a_NoReader => k_is)
    (case x_NoReader => k_is)
    (case sa_NoReader => k_is)
    (case ga_NoReader => k_is)
    (case gg_NoReader => k_is)
    (case ca_NoReader => k_is)
    (case kC_NoReader => k_is)
    (case eC_NoReader => k_is)
    (case tC_NoReader => k_is)
    (case hC_NoReader => k_is)
    (case mC_NoReader => k_is)
    (case nf_NoReader_name => k_is)
    (case a_NoReader___init__ => k_is)
    (case l_NoReader___init__ => k_is)
    (case c_NoReader___init__ => k_is)
    (case k_NoReader___init__ => k_is)
    (case t_NoReader___init__ => k_is)
    (case a_NoRow => k_is)
    (case x_NoRow => k_is)
    (case sa_NoRow => k_is)
    (case ga_NoRow => k_is)
    (case gg_NoRow => k_is)
    (case ca_NoRow => k_is)
    (case kC_NoRow => k_is)
    (case eC_NoRow => k_is)
    (case tC_NoRow => k_is)
    (case hC_NoRow => k_is)
    (case mC_NoRow => k_is)
    (case nf_NoRow_name => k_is)
    (case a_NoRow___init__ => k_is)
    (case l_NoRow___init__ => k_is)
    (case c_NoRow___init__ => k_is)
    (case k_NoRow___init__ => k_is)
    (case t_NoRow___init__ => k_is)
    (case a_Clash => k_is)
    (case x_Clash => k_is)
    (case sa_Clash => k_is)
    (case ga_Clash => k_is)
    (case gg_Clash => k_is)
    (case ca_Clash => k_is)
    (case kC_Clash => k_is)
    (case eC_Clash => k_is)
    (case tC_Clash => k_is)
    (case hC_Clash => k_is)
    (case mC_Clash => k_is)
    (case nf_Clash_name => k_is)
    (case a_Clash___init__ => k_is)
    (case l_Clash___init__ => k_is)
    (case c_Clash___init__ => k_is)
    (case k_Clash___init__ => k_is)
    (case t_Clash___init__ => k_is)
    (case a_SameStep => k_is)
    (case x_SameStep => k_is)
    (case sa_SameStep => k_is)
    (case ga_SameStep => k_is)
    (case gg_SameStep => k_is)
    (case ca_SameStep => k_is)
    (case kC_SameStep => k_is)
    (case eC_SameStep => k_is)
    (case tC_SameStep => k_is)
    (case hC_SameStep => k_is)
    (case mC_SameStep => k_is)
    (case nf_SameStep_name => k_is)
    (case a_SameStep___init__ => k_is)
    (case l_SameStep___init__ => k_is)
    (case c_SameStep___init__ => k_is)
    (case k_SameStep___init__ => k_is)
    (case t_SameStep___init__ => k_is)
    (case a_SameFile => k_is)
    (case x_SameFile => k_is)
    (case sa_SameFile => k_is)
    (case ga_SameFile => k_is)
    (case gg_SameFile => k_is)
    (case ca_SameFile => k_is)
    (case kC_SameFile => k_is)
    (case eC_SameFile => k_is)
    (case tC_SameFile => k_is)
    (case hC_SameFile => k_is)
    (case mC_SameFile => k_is)
    (case nf_SameFile_name => k_is)
    (case a_SameFile___init__ => k_is)
    (case l_SameFile___init__ => k_is)
    (case c_SameFile___init__ => k_is)
    (case k_SameFile___init__ => k_is)
    (case t_SameFile___init__ => k_is)
    (case a_BadNumber => k_is)
    (case x_BadNumber => k_is)
    (case sa_BadNumber => k_is)
    (case ga_BadNumber => k_is)
    (case gg_BadNumber => k_is)
    (case ca_BadNumber => k_is)
    (case kC_BadNumber => k_is)
    (case eC_BadNumber => k_is)
    (case tC_BadNumber => k_is)
    (case hC_BadNumber => k_is)
    (case mC_BadNumber => k_is)
    (case nf_BadNumber_value => k_is)
    (case a_BadNumber___init__ => k_is)
    (case l_BadNumber___init__ => k_is)
    (case c_BadNumber___init__ => k_is)
    (case k_BadNumber___init__ => k_is)
    (case t_BadNumber___init__ => k_is)
    (case a_ZeroRing => k_is)
    (case x_ZeroRing => k_is)
    (case sa_ZeroRing => k_is)
    (case ga_ZeroRing => k_is)
    (case gg_ZeroRing => k_is)
    (case ca_ZeroRing => k_is)
    (case kC_ZeroRing => k_is)
    (case eC_ZeroRing => k_is)
    (case tC_ZeroRing => k_is)
    (case hC_ZeroRing => k_is)
    (case mC_ZeroRing => k_is)
    (case nf_ZeroRing_members => k_is)
    (case a_ZeroRing___init__ => k_is)
    (case l_ZeroRing___init__ => k_is)
    (case c_ZeroRing___init__ => k_is)
    (case k_ZeroRing___init__ => k_is)
    (case t_ZeroRing___init__ => k_is)
    (case a_BadItem => k_is)
    (case x_BadItem => k_is)
    (case sa_BadItem => k_is)
    (case ga_BadItem => k_is)
    (case gg_BadItem => k_is)
    (case ca_BadItem => k_is)
    (case kC_BadItem => k_is)
    (case eC_BadItem => k_is)
    (case tC_BadItem => k_is)
    (case hC_BadItem => k_is)
    (case mC_BadItem => k_is)
    (case nf_BadItem_place => k_is)
    (case a_BadItem___init__ => k_is)
    (case l_BadItem___init__ => k_is)
    (case c_BadItem___init__ => k_is)
    (case k_BadItem___init__ => k_is)
    (case t_BadItem___init__ => k_is)
    (case a_NotYet => k_is)
    (case x_NotYet => k_is)
    (case sa_NotYet => k_is)
    (case ga_NotYet => k_is)
    (case gg_NotYet => k_is)
    (case ca_NotYet => k_is)
    (case kC_NotYet => k_is)
    (case eC_NotYet => k_is)
    (case tC_NotYet => k_is)
    (case hC_NotYet => k_is)
    (case mC_NotYet => k_is)
    (case nf_NotYet_place => k_is)
    (case nf_NotYet_step => k_is)
    (case a_NotYet___init__ => k_is)
    (case l_NotYet___init__ => k_is)
    (case c_NotYet___init__ => k_is)
    (case k_NotYet___init__ => k_is)
    (case t_NotYet___init__ => k_is)
    (case a_NoSet => k_is)
    (case x_NoSet => k_is)
    (case sa_NoSet => k_is)
    (case ga_NoSet => k_is)
    (case gg_NoSet => k_is)
    (case ca_NoSet => k_is)
    (case kC_NoSet => k_is)
    (case eC_NoSet => k_is)
    (case tC_NoSet => k_is)
    (case hC_NoSet => k_is)
    (case mC_NoSet => k_is)
    (case nf_NoSet_members => k_is)
    (case a_NoSet___init__ => k_is)
    (case l_NoSet___init__ => k_is)
    (case c_NoSet___init__ => k_is)
    (case k_NoSet___init__ => k_is)
    (case t_NoSet___init__ => k_is)
    (case a_Barred => k_is)
    (case x_Barred => k_is)
    (case sa_Barred => k_is)
    (case ga_Barred => k_is)
    (case gg_Barred => k_is)
    (case ca_Barred => k_is)
    (case kC_Barred => k_is)
    (case eC_Barred => k_is)
    (case tC_Barred => k_is)
    (case hC_Barred => k_is)
    (case mC_Barred => k_is)
    (case nf_Barred_pieces => k_is)
    (case a_Barred___init__ => k_is)
    (case l_Barred___init__ => k_is)
    (case c_Barred___init__ => k_is)
    (case k_Barred___init__ => k_is)
    (case t_Barred___init__ => k_is)
    (case a_NotKept => k_is)
    (case x_NotKept => k_is)
    (case sa_NotKept => k_is)
    (case ga_NotKept => k_is)
    (case gg_NotKept => k_is)
    (case ca_NotKept => k_is)
    (case kC_NotKept => k_is)
    (case eC_NotKept => k_is)
    (case tC_NotKept => k_is)
    (case hC_NotKept => k_is)
    (case mC_NotKept => k_is)
    (case nf_NotKept_first => k_is)
    (case nf_NotKept_second => k_is)
    (case a_NotKept___init__ => k_is)
    (case l_NotKept___init__ => k_is)
    (case c_NotKept___init__ => k_is)
    (case k_NotKept___init__ => k_is)
    (case t_NotKept___init__ => k_is)
    (case a_NoRule => k_is)
    (case x_NoRule => k_is)
    (case sa_NoRule => k_is)
    (case ga_NoRule => k_is)
    (case gg_NoRule => k_is)
    (case ca_NoRule => k_is)
    (case kC_NoRule => k_is)
    (case eC_NoRule => k_is)
    (case tC_NoRule => k_is)
    (case hC_NoRule => k_is)
    (case mC_NoRule => k_is)
    (case nf_NoRule_first => k_is)
    (case nf_NoRule_second => k_is)
    (case a_NoRule___init__ => k_is)
    (case l_NoRule___init__ => k_is)
    (case c_NoRule___init__ => k_is)
    (case k_NoRule___init__ => k_is)
    (case t_NoRule___init__ => k_is)
    (case a_TooEarly => k_is)
    (case x_TooEarly => k_is)
    (case sa_TooEarly => k_is)
    (case ga_TooEarly => k_is)
    (case gg_TooEarly => k_is)
    (case ca_TooEarly => k_is)
    (case kC_TooEarly => k_is)
    (case eC_TooEarly => k_is)
    (case tC_TooEarly => k_is)
    (case hC_TooEarly => k_is)
    (case mC_TooEarly => k_is)
    (case nf_TooEarly_place => k_is)
    (case a_TooEarly___init__ => k_is)
    (case l_TooEarly___init__ => k_is)
    (case c_TooEarly___init__ => k_is)
    (case k_TooEarly___init__ => k_is)
    (case t_TooEarly___init__ => k_is)
    (case a_TooFar => k_is)
    (case x_TooFar => k_is)
    (case sa_TooFar => k_is)
    (case ga_TooFar => k_is)
    (case gg_TooFar => k_is)
    (case ca_TooFar => k_is)
    (case kC_TooFar => k_is)
    (case eC_TooFar => k_is)
    (case tC_TooFar => k_is)
    (case hC_TooFar => k_is)
    (case mC_TooFar => k_is)
    (case nf_TooFar_first => k_is)
    (case nf_TooFar_second => k_is)
    (case a_TooFar___init__ => k_is)
    (case l_TooFar___init__ => k_is)
    (case c_TooFar___init__ => k_is)
    (case k_TooFar___init__ => k_is)
    (case t_TooFar___init__ => k_is)
    (case a_BadGaps => k_is)
    (case x_BadGaps => k_is)
    (case sa_BadGaps => k_is)
    (case ga_BadGaps => k_is)
    (case gg_BadGaps => k_is)
    (case ca_BadGaps => k_is)
    (case kC_BadGaps => k_is)
    (case eC_BadGaps => k_is)
    (case tC_BadGaps => k_is)
    (case hC_BadGaps => k_is)
    (case mC_BadGaps => k_is)
    (case ex0_BadGaps => k_exc)
    (case a_EmptyRow => k_is)
    (case x_EmptyRow => k_is)
    (case sa_EmptyRow => k_is)
    (case ga_EmptyRow => k_is)
    (case gg_EmptyRow => k_is)
    (case ca_EmptyRow => k_is)
    (case kC_EmptyRow => k_is)
    (case eC_EmptyRow => k_is)
    (case tC_EmptyRow => k_is)
    (case hC_EmptyRow => k_is)
    (case mC_EmptyRow => k_is)
    (case ex0_EmptyRow => k_exc)
    (case a_NothingBack => k_is)
    (case x_NothingBack => k_is)
    (case sa_NothingBack => k_is)
    (case ga_NothingBack => k_is)
    (case gg_NothingBack => k_is)
    (case ca_NothingBack => k_is)
    (case kC_NothingBack => k_is)
    (case eC_NothingBack => k_is)
    (case tC_NothingBack => k_is)
    (case hC_NothingBack => k_is)
    (case mC_NothingBack => k_is)
    (case ex0_NothingBack => k_exc)
    (case a_BadLine => k_is)
    (case x_BadLine => k_is)
    (case sa_BadLine => k_is)
    (case ga_BadLine => k_is)
    (case gg_BadLine => k_is)
    (case ca_BadLine => k_is)
    (case kC_BadLine => k_is)
    (case eC_BadLine => k_is)
    (case tC_BadLine => k_is)
    (case hC_BadLine => k_is)
    (case mC_BadLine => k_is)
    (case nf_BadLine_line => k_is)
    (case a_BadLine___init__ => k_is)
    (case l_BadLine___init__ => k_is)
    (case c_BadLine___init__ => k_is)
    (case k_BadLine___init__ => k_is)
    (case t_BadLine___init__ => k_is)
    (case a_LookError => k_is)
    (case i_LookError => k_is)
    (case t_LookError => k_is)
    (case o_get => k_is)
    (case o_tak => k_is)
    (case z_ValueError => k_is)
    (case z_enumerate => k_is)
    (case z_int => k_is)
    (case z_isinstance => k_is)
    (case z_len => k_is)
    (case z_range => k_is)
    (case z_str => k_is)
    (case nd => decide)
    (case nL => decide)
