import PyProof.Rows.All
import Wide.All
import OpenK.AllK
import Wide.FinOn
import HandS.ForMost
import HandS.IsInst
import HandS.ExcInit
import HandS.ExcValue
import HandS.ExcField
import HandS.ExcIs
import HandS.Evl
import PySem.Challenge.RW_allscales_k02_errors
set_option Elab.async false
set_option maxRecDepth 100000
/-! The pen that the laws draw from: a dict with five entries over a copy of the script. -/
namespace AL
open PySem L2

/-- all but what stands at p stays -/
def Keep (p : Addr) (H H' : Hp) : Prop := ∀ b o, b ≠ p → H b = some o → H' b = some o
theorem Keep.refl (p : Addr) (H : Hp) : Keep p H H := fun _ _ _ h => h
theorem Keep.trans {p : Addr} {H H1 H2 : Hp} (a : Keep p H H1) (b : Keep p H1 H2) : Keep p H H2 := fun c o n h => b c o n (a c o n h)
theorem Keep.upd {p : Addr} {H : Hp} {o : HO} : Keep p H (upd H p o) := fun b u n e => by rw [upd_ne n]; exact e
theorem Keep.new {p q : Addr} {H : Hp} {o : HO} (h : H q = none) : Keep p H (L2.upd H q o) := fun b u _ e => by
  rw [upd_ne (ne_of_none e h)]; exact e

def penK (c : Addr) (i d n f : Int) : List (Key × V) :=
  [(.inr "cells", .ref c), (.inr "at", .int i), (.inr "digits", .int d), (.inr "count", .int n), (.inr "fold", .int f)]
section
variable {c : Addr} {i d n f x : Int}
theorem pen_cells : valV (penK c i d n f) (Sum.inr "cells" : Key) = some (.ref c) := by kernel_rfl
theorem pen_at : valV (penK c i d n f) (Sum.inr "at" : Key) = some (.int i) := by kernel_rfl
theorem pen_digits : valV (penK c i d n f) (Sum.inr "digits" : Key) = some (.int d) := by kernel_rfl
theorem pen_count : valV (penK c i d n f) (Sum.inr "count" : Key) = some (.int n) := by kernel_rfl
theorem pen_fold : valV (penK c i d n f) (Sum.inr "fold" : Key) = some (.int f) := by kernel_rfl
theorem put_at : putK (penK c i d n f) (Sum.inr "at" : Key) (.int x) = penK c x d n f := by kernel_rfl
theorem put_digits : putK (penK c i d n f) (Sum.inr "digits" : Key) (.int x) = penK c i x n f := by kernel_rfl
theorem put_count : putK (penK c i d n f) (Sum.inr "count" : Key) (.int x) = penK c i d x f := by kernel_rfl
theorem put_fold : putK (penK c i d n f) (Sum.inr "fold" : Key) (.int x) = penK c i d n x := by kernel_rfl
theorem pen_len : (penK c i d n f).length = 5 := rfl
end
/-- a pen stands at p, its cells at c; it has drawn at most m times -/
structure Pen (H : Hp) (p c : Addr) (m : Nat) : Prop where
  ex : ∃ (ns : List Int) (i d n f : Int), H p = some (.dK (penK c i d n f)) ∧ H c = some (.lst (ns.map V.int)) ∧ 0 ≤ i ∧ 0 ≤ d ∧ 0 ≤ n ∧ n ≤ (m : Int) ∧ 0 ≤ f ∧ f < 2147483648
theorem Pen.mono {H : Hp} {p c : Addr} {m m' : Nat} (h : Pen H p c m) (l : m ≤ m') : Pen H p c m' := by
  obtain ⟨ns, i, d, n, f, h1, h2, h3, h4, h5, h6, h7, h8⟩ := h.ex
  exact ⟨ns, i, d, n, f, h1, h2, h3, h4, h5, by omega, h7, h8⟩
theorem Pen.keep {H H' : Hp} {p c : Addr} {m : Nat} (h : Pen H p c m) (k1 : ∀ o, H p = some o → H' p = some o) (k2 : ∀ o, H c = some o → H' c = some o) : Pen H' p c m := by
  obtain ⟨ns, i, d, n, f, h1, h2, hr⟩ := h.ex
  exact ⟨ns, i, d, n, f, k1 _ h1, k2 _ h2, hr⟩
theorem Pen.same {H H' : Hp} {p c : Addr} {m : Nat} (h : Pen H p c m) (k : Same H H') : Pen H' p c m := h.keep (fun o e => k _ o e) fun o e => k _ o e
theorem Pen.dict {H : Hp} {p c : Addr} {m : Nat} (h : Pen H p c m) : ∃ kvs, H p = some (.dK kvs) := by
  obtain ⟨ns, i, d, n, f, h1, _⟩ := h.ex
  exact ⟨_, h1⟩
/-- what is no dict and stands, stays -/
theorem Keep.rd {p a : Addr} {H H' : Hp} {kvs : List (Key × V)} {u : HO} (k : Keep p H H') (hp : H p = some (.dK kvs)) (h : Rd H a u) (hu : ∀ l, u ≠ .dK l) : Rd H' a u := by
  rcases h with h | ⟨o, h⟩
  · exact .inl (k a _ (fun z => by rw [z, hp] at h; exact hu _ (Option.some.inj h).symm) h)
  · exact .inr ⟨o, k a _ (fun z => by rw [z, hp] at h; cases h) h⟩
theorem Keep.seqL {K : PySem.W.Frag} {p c a : Addr} {m : Nat} {H H' : Hp} {xs : List V} (k : Keep p H H') (hp : Pen H p c m) (h : SqL K H a xs) : SqL K H' a xs := by
  obtain ⟨kvs, hk⟩ := hp.dict
  rcases h with h | h
  · exact .inl (k.rd hk h (fun l z => by cases z))
  · exact .inr h
theorem Keep.seqT {K : PySem.W.Frag} {p c a : Addr} {m : Nat} {H H' : Hp} {xs : List V} (k : Keep p H H') (hp : Pen H p c m) (h : SqT K H a xs) : SqT K H' a xs := by
  obtain ⟨kvs, hk⟩ := hp.dict
  rcases h with h | h
  · exact .inl (k.rd hk h (fun l z => by cases z))
  · exact .inr h
theorem Keep.at {p c a : Addr} {m : Nat} {H H' : Hp} {o : HO} (k : Keep p H H') (hp : Pen H p c m) (h : H a = some o) (hu : ∀ l, o ≠ .dK l) : H' a = some o := by
  obtain ⟨kvs, hk⟩ := hp.dict
  exact k a _ (fun z => by rw [z, hk] at h; exact hu _ (Option.some.inj h).symm) h
theorem Keep.free {p c a : Addr} {m : Nat} {H H' : Hp} (k : Keep p H H') (hp : Pen H p c m) (hp' : Pen H' p c m) (h : H' a = none) : H a = none := by
  cases e : H a with
  | none => rfl
  | some o =>
    by_cases z : a = p
    · obtain ⟨kvs, hk⟩ := hp'.dict
      rw [z, hk] at h; cases h
    · rw [k a o z e] at h; cases h

/-- a def of the module's top, as it stands behind the top -/
structure DefAt (K : PySem.W.Frag) (mg : Str → Option Value) (x : Str) (st : Stmt) (ps : List Str) (f : Addr) (fd : FuncData) : Prop where
  F : Fun K x x st f fd
  m : mg x = some (.ref f)
  b : Binds K fd ps []
/-! ### the promises -/
/-- _law_pen(script) -/
def spPen (K : PySem.W.Frag) : Sp := fun vs H Q _ => ∃ (a : Addr) (ns : List Int), vs = [.ref a] ∧ SqL K H a (ns.map V.int) ∧ ∀ (p c : Addr) (H' : Hp), H p = none → H c = none → p ≠ c → Pen H' p c 0 → Same H H' → Q (.ref p) H'
/-- _law_draw(pen, many) -/
def spDraw : Sp := fun vs H Q _ => ∃ (p c : Addr) (m : Nat) (k : Int), vs = [.ref p, .int k] ∧ Pen H p c m ∧ m < 1000000000 ∧ 0 < k ∧ k < 1000000000 ∧
  ∀ (r : Int) (H' : Hp), 0 ≤ r → r < k → Pen H' p c (m + 1) → Keep p H H' → Q (.int r) H'
/-- _law_pick(pen, some), some a list -/
def spPick (K : PySem.W.Frag) : Sp := fun vs H Q _ => ∃ (p c a : Addr) (m : Nat) (xs : List V), vs = [.ref p, .ref a] ∧ Pen H p c m ∧ m < 1000000000 ∧ SqL K H a xs ∧ 0 < xs.length ∧ xs.length < 1000000000 ∧
  ∀ (j : Nat) (x : V) (H' : Hp), xs[j]? = some x → Pen H' p c (m + 1) → Keep p H H' → Q x H'
end AL
namespace AL
open PySem L2
theorem dget {H : Hp} {a : Addr} {kvs : List (Key × V)} {k : Key} {v : V} (h : H a = some (.dK kvs)) (e : valV kvs k = some v) : DGet H a (kV k) (some v) := by
  rw [← e]; exact DGet.k h
theorem dput {H : Hp} {a : Addr} {kvs kvs' : List (Key × V)} {k : Key} {v : V} (h : H a = some (.dK kvs)) (hl : kvs.length < sizeLine) (e : putK kvs k v = kvs') : DPut H a (kV k) v (upd H a (.dK kvs')) := by
  rw [← e]; exact DPut.k h hl
theorem fmod_in {a b : Int} (h : 0 < b) : 0 ≤ a.fmod b ∧ a.fmod b < b := by
  rw [Int.fmod_eq_emod_of_nonneg a (Int.le_of_lt h)]
  exact ⟨Int.emod_nonneg _ (by omega), Int.emod_lt_of_pos _ h⟩
theorem fdiv_nn {a b : Int} (ha : 0 ≤ a) (h : 0 < b) : 0 ≤ a.fdiv b := by
  rw [Int.fdiv_eq_ediv_of_nonneg a (Int.le_of_lt h)]
  exact Int.ediv_nonneg ha (Int.le_of_lt h)
theorem map_int {ns : List Int} {i : Nat} {y : V} (hi : (ns.map V.int)[i]? = some y) : ∃ z, ns[i]? = some z ∧ y = V.int z := by
  rw [List.getElem?_map] at hi
  cases e : ns[i]? with
  | none => rw [e] at hi; cases hi
  | some z => rw [e] at hi; exact ⟨z, rfl, (Option.some.inj hi).symm⟩
theorem Same.new {H : Hp} {p : Addr} {o : HO} (h : H p = none) : Same H (upd H p o) := fun b u e => by
  rw [upd_ne (ne_of_none e h)]; exact e
end AL
namespace AL
open PySem L2
/-- the built-in names that the top leaves alone -/
def bltNames : List Str := ["abs", "all", "any", "bool", "dict", "enumerate", "int", "isinstance", "len", "list", "max", "min", "range", "repr", "reversed", "set", "sorted", "str", "sum", "tuple", "zip"]
structure Blt (mg : Str → Option Value) : Prop where
  abs_ : mg "abs" = none
  all_ : mg "all" = none
  any_ : mg "any" = none
  bool_ : mg "bool" = none
  dict_ : mg "dict" = none
  enumerate_ : mg "enumerate" = none
  int_ : mg "int" = none
  isinstance_ : mg "isinstance" = none
  len_ : mg "len" = none
  list_ : mg "list" = none
  max_ : mg "max" = none
  min_ : mg "min" = none
  range_ : mg "range" = none
  repr_ : mg "repr" = none
  reversed_ : mg "reversed" = none
  set_ : mg "set" = none
  sorted_ : mg "sorted" = none
  str_ : mg "str" = none
  sum_ : mg "sum" = none
  tuple_ : mg "tuple" = none
  zip_ : mg "zip" = none
def bltB (K : PySem.W.Frag) : Bool := bltNames.all fun x => decide (PySem.W.nsIn K mainGlobals x = some none)
theorem blt_of {K : PySem.W.Frag} {h : Heap} {mg : Str → Option Value} (X : K.In h) (G : h.Ns mainGlobals mg) (b : bltB K = true) : Blt mg := by
  unfold bltB at b
  have all : ∀ x ∈ bltNames, mg x = none := fun x hx => PySem.W.mg_none_of X G (of_decide_eq_true (List.all_eq_true.mp b x hx))
  exact ⟨all _ (by simp [bltNames]), all _ (by simp [bltNames]), all _ (by simp [bltNames]), all _ (by simp [bltNames]), all _ (by simp [bltNames]), all _ (by simp [bltNames]), all _ (by simp [bltNames]), all _ (by simp [bltNames]), all _ (by simp [bltNames]), all _ (by simp [bltNames]), all _ (by simp [bltNames]), all _ (by simp [bltNames]), all _ (by simp [bltNames]), all _ (by simp [bltNames]), all _ (by simp [bltNames]), all _ (by simp [bltNames]), all _ (by simp [bltNames]), all _ (by simp [bltNames]), all _ (by simp [bltNames]), all _ (by simp [bltNames]), all _ (by simp [bltNames])⟩
end AL
set_option Elab.async false
set_option maxRecDepth 100000
namespace AL
open PySem L2 PySem.NumText
theorem digitsVal_app (a b : List Nat) : digitsVal (a ++ b) = digitsVal a * 10 ^ b.length + digitsVal b := by
  have key : ∀ (n : Nat) (b : List Nat), b.length = n → digitsVal (a ++ b) = digitsVal a * 10 ^ b.length + digitsVal b := by
    intro n
    induction n with
    | zero =>
      intro b hb
      have : b = [] := List.length_eq_zero_iff.mp hb
      subst this
      simp [digitsVal]
    | succ n ih =>
      intro b hb
      have hne : b ≠ [] := fun z => by rw [z] at hb; cases hb
      obtain ⟨i, c, rfl⟩ : ∃ i c, b = i ++ [c] := ⟨b.dropLast, b.getLast hne, (List.dropLast_concat_getLast hne).symm⟩
      have hi : i.length = n := by simpa using hb
      rw [← List.append_assoc, digitsVal_snoc, ih i hi, digitsVal_snoc, List.length_append, List.length_singleton, Nat.pow_succ, Nat.add_mul, Nat.mul_assoc]
      omega
  exact key _ b rfl
theorem digitsVal_lt : ∀ (n : Nat) (b : List Nat), b.length = n → AllDigits b → digitsVal b < 10 ^ n
  | 0, b, hl, _ => by
    have : b = [] := List.length_eq_zero_iff.mp hl
    subst this; decide
  | n + 1, b, hl, h => by
    cases b with
    | nil => simp at hl
    | cons c b =>
      have hc := h.head
      have ih := digitsVal_lt n b (by simpa using hl) h.tail
      have e := digitsVal_app [c] b
      rw [List.singleton_append] at e
      have e1 : digitsVal [c] = c - 48 := by show 0 * 10 + (c - 48) = c - 48; omega
      have hl' : b.length = n := by simpa using hl
      rw [e, e1, hl', Nat.pow_succ]
      have : (c - 48) * 10 ^ n ≤ 9 * 10 ^ n := Nat.mul_le_mul_right _ (by omega)
      omega
/-- the last k signs of a number's text -/
theorem last_digits {n k : Nat} (hk : 0 < k) (hl : (TL.numL n).length ≤ 640) :
    (cutS (Str.ofString (toString ((n : Nat) : Int))) (some (-(k : Int))) none).length ≤ 640 ∧
    intText? (cutS (Str.ofString (toString ((n : Nat) : Int))) (some (-(k : Int))) none) = some ((n % 10 ^ k : Nat) : Int) := by
  have htl : (Str.ofString (toString ((n : Nat) : Int))).cps.toList = TL.numL n := TL.tl_num n
  have hlen : (Str.ofString (toString ((n : Nat) : Int))).length = (TL.numL n).length := by rw [TL.len_tl]; exact congrArg List.length (TL.tl_num n)
  have e : (cutS (Str.ofString (toString ((n : Nat) : Int))) (some (-(k : Int))) none).cps.toList = (TL.numL n).drop ((TL.numL n).length - k) := by
    unfold cutS
    rw [htl, hlen]
    have h1 : HT.sIx (TL.numL n).length 0 (some (-(k : Int))) = (TL.numL n).length - k := by
      show (if (-(k : Int)) < 0 then ((-(k : Int)) + ((TL.numL n).length : Int)).toNat else _) = _
      rw [if_pos (by omega)]
      omega
    have h2 : HT.sIx (TL.numL n).length (TL.numL n).length none = (TL.numL n).length := by
      unfold HT.sIx
      simp
    rw [h1, h2]
    simp
    apply List.take_of_length_le
    simp
  have hd := TL.numL_digits n
  have hne := TL.numL_ne n
  have hv := TL.numL_val n
  generalize TL.numL n = l at *
  have hl0 : 0 < l.length := List.length_pos_iff.mpr hne
  have len : (cutS (Str.ofString (toString ((n : Nat) : Int))) (some (-(k : Int))) none).length = (l.drop (l.length - k)).length := by
    rw [← e]; exact Array.length_toList.symm
  have hle : (l.drop (l.length - k)).length ≤ k := by rw [List.length_drop]; omega
  have hdd : AllDigits (l.drop (l.length - k)) := fun c hc => hd c (List.mem_of_mem_drop hc)
  refine ⟨by rw [len, List.length_drop]; omega, ?_⟩
  rw [intText_digits (by rw [e]; exact hdd) (by rw [e]; intro z; have := congrArg List.length z; rw [List.length_drop] at this; simp at this; omega) (by rw [len, List.length_drop]; omega), e]
  congr 2
  have hap := digitsVal_app (l.take (l.length - k)) (l.drop (l.length - k))
  rw [List.take_append_drop, hv] at hap
  have hlt := digitsVal_lt _ _ rfl hdd
  by_cases hkl : k ≤ l.length
  · have : (l.drop (l.length - k)).length = k := by rw [List.length_drop]; omega
    rw [this] at hap hlt
    rw [hap, Nat.mul_comm, Nat.mul_add_mod, Nat.mod_eq_of_lt hlt]
  · have z : l.length - k = 0 := by omega
    rw [z] at hap hlt ⊢
    simp [digitsVal] at hap
    have : n < 10 ^ k := Nat.lt_of_lt_of_le (by rw [List.drop_zero] at hlt; rw [← hv]; exact hlt) (Nat.pow_le_pow_right (by decide) (by omega))
    rw [List.drop_zero, hv, Nat.mod_eq_of_lt this]
end AL
namespace AL
open PySem L2 PySem.NumText
theorem log2_small {n k : Nat} (hk : 0 < k) (h : n < 2 ^ k) : n.log2 < k := by
  by_cases z : n = 0
  · subst z; simpa using hk
  · exact (Nat.log2_lt z).mpr h
theorem pow402 : (10 : Nat) ^ 402 < 2 ^ 1920 := by decide +kernel
theorem thousand (i : Nat) : (1000 : Nat) ^ i = 10 ^ (3 * i) := by rw [Nat.pow_mul]
/-- _law_big(pen, figures) -/
def spBig : Sp := fun vs H Q _ => ∃ (p c : Addr) (m : Nat) (k : Nat), vs = [.ref p, .int (k : Int)] ∧ Pen H p c m ∧ m < 900000000 ∧ 0 < k ∧ k ≤ 400 ∧
  ∀ (r : Nat) (H' : Hp), r < 10 ^ k → Pen H' p c (m + 200) → Keep p H H' → Q (.int (r : Int)) H'
/-- _law_name(pen, used), used a new empty list -/
def spName0 : Sp := fun vs H Q _ => ∃ (p c a : Addr) (m : Nat), vs = [.ref p, .ref a] ∧ Pen H p c m ∧ a ≠ c ∧ m < 900000000 ∧ H a = some (.lst []) ∧
  ∀ (z : Str) (H' : Hp), z.length ≤ 8 → (∀ c ∈ z.cps.toList, c < 128) → Pen H' p c (m + 200) → Keep p (upd H a (.lst [.str z])) H' → Q (.str z) H'
theorem app_tl {z : Str} {c : Nat} : (z ++ (⟨#[c]⟩ : Str)).cps.toList = z.cps.toList ++ [c] := by
  show (z.cps ++ #[c]).toList = _
  rw [Array.toList_append]
theorem pick_of {xs : List V} {P : V → Prop} (h : ∀ x ∈ xs, P x) {j : Nat} {x : V} (e : xs[j]? = some x) : P x := h x (List.mem_of_getElem? e)
end AL
set_option Elab.async false
set_option maxRecDepth 100000
set_option maxHeartbeats 2000000
/-! Defs that ask repr: their promises hold where no repr is under way. -/
namespace AL
open PySem PySem.Spec PyProof.Rows L2

/-- a def's promise, kept wherever no guard stands around -/
structure FnG (P : Program) (w : World) (K : PySem.W.Frag) (mg : Str → Option Value) (base : Heap) (CX : CXT) (k : Nat) (f : Addr) (fd : FuncData) (ps : List Str) (sp : Sp) : Prop where
  len : ∀ xs H Q E, sp xs H Q E → xs.length = ps.length
  run : ∀ (A : Around) (ol : List Env) (s : Shared) (H : Hp) (ar : Args) (us : List Value) (xs : List V) (Q : VK) (E : XK), A.guards = some [] → Room k A → Env0 P w K mg base A ol s H →
    BindsTo s fd ar (ps.zip us) → Vals xs us → sp xs H Q E → codeAny (model P w) A (.call (.ref f) ar) (CR CX ol P w H s Q E) s

theorem FnG.of {P : Program} {w : World} {K : PySem.W.Frag} {mg : Str → Option Value} {base : Heap} {CX : CXT} {k : Nat} {f : Addr} {fd : FuncData} {ps : List Str} {sp : Sp}
    (F : FnOk P w K mg base CX k f fd ps sp) : FnG P w K mg base CX k f fd ps sp :=
  ⟨F.len, fun A ol s H ar us xs Q E _ r e b v h => F.run A ol s H ar us xs Q E r e b v h⟩

/-- a def of the text, by its body -/
theorem okGX {P : Program} {w : World} {K : PySem.W.Frag} {mg : Str → Option Value} {base : Heap} {x qual : Str} {st : Stmt} {f : Addr} {fd : FuncData} {N ps : List Str} {CX : CXT} {k : Nat} {sp : Sp}
    (F : Fun K x qual st f fd) (S : FnScope N ps (defScope st)) (len : ∀ xs H Q E, sp xs H Q E → xs.length = ps.length)
    (body : ∀ (cv : Value) (A : Around) (ol : List Env) (s : Shared) (H : Hp) (xs : List V) (Q : VK) (E : XK), A.guards = some [] → Room k (A.deeper (envOfC qual (defScope st) s.heap.objs.size f cv)) →
      sp xs H Q E → ∃ t, PSs (cxOf CX P w K mg base N qual (defScope st) f cv A ol s H E) (defBody st) t ∧ t { nx := fun _ H' => Q .non H', rt := Q } (start N xs) H) :
    FnG P w K mg base CX (k + 1) f fd ps sp := by
  obtain ⟨c0, d0, kw0, dc0, pm0, an0, cv, ct0, sl0, efd, look, code⟩ := F.ex
  subst efd
  constructor
  · exact len
  · intro A ol s H ar us xs Q E gd room e0 bd vals wish
    have here : K.In s.heap := e0.mod.kin.keeps fun b o z => (e0.bs b o z).1
    have free : s.heap.NoLimit := e0.mod.nolimit.keeps fun b o z => (e0.bs b o z).1
    have kinds : ∀ y ∈ ps.zip us, (defScope st).names.lookup y.1 = some .local ∨ ((defScope st).names.lookup y.1 = some .cell ∧ ((cellsFrom (s.heap.objs.size + 1) (defScope st).names []).lookup y.1).isSome = true) := by
      rintro ⟨n, v⟩ hy
      cases S.par n (List.of_mem_zip hy).1 with
      | inl q => exact .inl q
      | inr q => exact .inr ⟨q, PySem.W.cellsFrom_some _ _ _ (.inl q)⟩
    refine codeAny_call_function room.depth (here _ _ look) rfl S.co S.gen rfl (PySem.W.codeRec_of here code) (bd _ _ _ _ (wpAny_newFunctionEnv_cells S.kind kinds fun env hv s1 ic => ?_))
    subst hv
    refine ⟨free.keeps ic.toInCall.keep, codeAny_func ?_⟩
    obtain ⟨t, run, rd⟩ := body cv A ol s H xs Q E gd (room.deeper _) wish
    have I0 := inv_start (CX := CX) (P := P) (w := w) (cd := cv) (E := E) S room.hd e0 (len _ _ _ _ wish) vals ic
    refine wpAny_mono (run.run [] s1 _ H _ I0 rd) (fun fl s2 z => ?_) fun _ _ z => z
    cases fl with
    | brk => obtain ⟨_, _, _, no⟩ := z; exact no.elim
    | cont => obtain ⟨_, _, _, no⟩ := z; exact no.elim
    | next =>
      obtain ⟨σ2, H2, J, q⟩ := z
      exact ⟨V.non, H2, J.os, J.bare, J.base, J.hok, rfl, q⟩
    | ret u =>
      obtain ⟨v, σ2, H2, J, rv, q⟩ := z
      exact ⟨v, H2, J.os, J.bare, J.base, J.hok, rv, q⟩

/-- .. of which nothing that is raised leaves it -/
theorem okG {P : Program} {w : World} {K : PySem.W.Frag} {mg : Str → Option Value} {base : Heap} {x qual : Str} {st : Stmt} {f : Addr} {fd : FuncData} {N ps : List Str} {k : Nat} {sp : Sp}
    (F : Fun K x qual st f fd) (S : FnScope N ps (defScope st)) (len : ∀ xs H Q E, sp xs H Q E → xs.length = ps.length)
    (body : ∀ (cv : Value) (A : Around) (ol : List Env) (s : Shared) (H : Hp) (xs : List V) (Q : VK) (E : XK), A.guards = some [] → Room k (A.deeper (envOfC qual (defScope st) s.heap.objs.size f cv)) →
      sp xs H Q E → ∃ t, PSs (cxOf CX0 P w K mg base N qual (defScope st) f cv A ol s H E).nox (defBody st) t ∧ t { nx := fun _ H' => Q .non H', rt := Q } (start N xs) H) :
    FnG P w K mg base CX0 (k + 1) f fd ps sp := by
  refine okGX F S len fun cv A ol s H xs Q E gd room wish => ?_
  obtain ⟨t, run, rd⟩ := body cv A ol s H xs Q E gd room wish
  exact ⟨t, run.nox, rd⟩

section
variable {X : Cx} {CX : CXT} {k : Nat} {f : Addr} {fd : FuncData} {ps : List Str} {sp : Sp} {E : XK} {x : Str} {p pos : Pos} {e : Expr} {es : List Expr} {t : TA}
/-- f(e, ..) where no guard stands -/
theorem pe_callG (F : FnG X.prog X.w X.K X.mg X.base CX k f fd ps sp) (gd : X.A.guards = some []) (room : Room k X.A) (hg : Gl X x) (hm : X.mg x = some (.ref f)) (kp : PySem.W.keepIn X.K (.ref f) = true) (hb : Binds X.K fd ps [])
    (out : Passes CX X E) (ha : PA X (e :: es) t) (nd : (x == ("__debug__" : Str)) = false := by decide) (s1 : starEach (e :: es) X.env = (false, eval e X.env) :: starEach es X.env := by rfl)
    (s2 : (backTo pos (starEach es X.env)).any (·.1) = false := by rfl) : PE X (.Call (.Name x p) (e :: es) [] pos) (tCall sp [] E t) := by
  constructor
  intro pins s σ H Q I h
  refine wpAny_Call_Name_kw (ld_glob I hg hm (PySem.W.callWith_K (h₀ := X.base) I.ok.mod.kin kp ?_ s1 s2) nd)
  refine thn (ha.run pos pins s σ H _ I h) fun us s3 ⟨xs, H3, J, rv, q⟩ => ⟨J.kIn, ?_⟩
  have q' : sp xs H3 Q E := by
    have z : sp (xs ++ []) H3 Q E := q
    rw [List.append_nil] at z
    exact z
  have len : us.length = ps.length := by rw [← rv.length]; exact F.len _ _ _ _ q'
  have bd : BindsTo s3 fd ⟨us, []⟩ (ps.zip us) := by
    have z := hb s3 us J.kIn (by rw [List.append_nil]; exact len)
    rw [List.append_nil] at z
    exact z
  refine wpAny_call (codeAny_mono (F.run X.A X.stack s3 H3 ⟨us, []⟩ us xs Q E gd room J.env0 bd rv q') fun r s4 z => ?_)
  cases r with
  | error er => exact out pins σ H3 s3 er s4 J z
  | ok fl =>
    cases fl with
    | ret u => exact J.after z
    | next => exact z.elim
    | brk => exact z.elim
    | cont => exact z.elim
end

/-! ### repr of data -/
/-- repr(x), x a list or a tuple of data -/
def rRepr (K : PySem.W.Frag) : List V → Hp → VK → Prop := fun vs H Q => ∃ (a : Addr) (d : PyData), vs = [.ref a] ∧ Dp K H (.ref a) d ∧ d.showable = true ∧ d.hasDict = false ∧ d.depth ≤ 60 ∧ d.shown.length ≤ sizeLine ∧ Q (.str d.shown) H
theorem call_reprD {X : Cx} (gd : X.A.guards = some []) (hu : X.A.units + 64 < cLine) : CallR X (.builtin "repr") (rRepr X.K) := by
  intro pins s σ H vs us Q I r h
  obtain ⟨a, d, rfl, hd, h1, h2, h3, h4, q⟩ := h
  obtain ⟨u, rfl, ru⟩ := vals1 r
  obtain rfl : u = Value.ref a := ru
  obtain ⟨as, rd⟩ := Dp.reads I d (.ref a) (.ref a) hd rfl
  exact repr_of_reads' rd h1 (PyData.noDict_hsm h2) gd (by omega) (fun _ _ z => z) (fun h' u tk kk => ⟨.str d.shown, H, I.kept (t' := tk) kk, ⟨u, rfl⟩, q⟩) h4
end AL
set_option Elab.async false
set_option maxRecDepth 100000
set_option maxHeartbeats 2000000
/-! The end of a law whose def asks repr. -/
namespace AL
open PySem PySem.Spec PyProof.Rows L2
/-- the script's own object -/
def scrO (us : List Value) : Obj := { cls := .type "list", data := .seq us.toArray }
/-- the heap at the law's entry: the script alone, locked (or nothing, where it is the module's own) -/
def scrH (K : PySem.W.Frag) (a : Addr) (us : List Value) (ns : List Int) : Hp := fun b => if b = a ∧ K.lookup a = none then some (.frz (scrO us) (.lst (ns.map V.int))) else none
theorem scrH_some {K : PySem.W.Frag} {a b : Addr} {us : List Value} {ns : List Int} {u : HO} (h : scrH K a us ns b = some u) : b = a ∧ K.lookup a = none ∧ u = .frz (scrO us) (.lst (ns.map V.int)) := by
  unfold scrH at h
  split at h
  · rename_i c
    exact ⟨c.1, c.2, (Option.some.inj h).symm⟩
  · cases h
theorem lawG {P : Program} {w : World} {K : PySem.W.Frag} {mg mb : Str → Option Value} {CX : CXT} {k : Nat} {fa a : Addr} {fd : FuncData} {x : Str} {sp : Sp} {t : Shared} {us : List Value} {ns : List Int}
    (kin : K.In t.heap) (glb : t.heap.Ns mainGlobals mg) (blt : t.heap.Ns builtinsNs mb) (boot : ∀ y : Str, y ≠ "__name__" → mb y = bootBuiltins y) (free : t.heap.NoLimit) (noG : t.gens = #[])
    (at_a : t.heap.get? a = some (scrO us)) (isI : IntsAre us ns) (short : ns.length ≤ sizeLine) (room : Room k callerA)
    (F : ∀ base : Heap, K.In base → base.Ns mainGlobals mg → FnG P w K mg base CX k fa fd [x] sp) (bind : ∀ (s : Shared) (u : Value), BindsTo s fd ⟨[u], []⟩ [(x, u)])
    (wish : ∀ H : Hp, Only H → SqL K H a (ns.map V.int) → sp [.ref a] H (fun v _ => v = .bl true) fun _ _ _ => False)
    (noX : ∀ H e s', CX [] H t (fun _ _ _ => False) e s' → False) :
    codeAny (model P w) callerA (.call (.ref fa) ⟨[.ref a], []⟩) (fun r s' => r = .ok (.ret (.bool true)) ∧ OldK t.heap s'.heap ∧ s'.os = t.os ∧ AllBare s'.gens) t := by
  have vals := vals_ints isI
  have many := isI.length
  have only : Only (scrH K a us ns) := fun b => by
    cases e : scrH K a us ns b with
    | none => exact .inl rfl
    | some u =>
      obtain ⟨_, _, z⟩ := scrH_some e
      exact .inr ⟨_, _, congrArg some z⟩
  have seq : SqL K (scrH K a us ns) a (ns.map V.int) := by
    cases e : K.lookup a with
    | none => exact .inl (.inr ⟨scrO us, if_pos ⟨rfl, e⟩⟩)
    | some o =>
      have z := kin a o e
      rw [at_a] at z
      cases z
      exact .inr ⟨_, us.toArray, _, e, rfl, rfl, rfl, by rw [List.size_toArray, many]; exact short, vals⟩
  have held : HOk P w (scrH K a us ns) t.heap := fun b u e => by
    obtain ⟨rfl, _, rfl⟩ := scrH_some e
    exact ⟨at_a, by rw [List.length_map]; exact short, us, _, vals, at_a⟩
  have noDict : ∀ {b : Addr} {o : Obj} {es : Array DictEntry} {n : Nat}, t.heap.get? b = some o → o.data = .dict es n → scrH K a us ns b = none := by
    intro b o es n e1 e2
    cases e : scrH K a us ns b with
    | none => rfl
    | some u =>
      obtain ⟨rfl, _, _⟩ := scrH_some e
      rw [at_a] at e1
      cases e1
      cases e2
  have ns_of : ∀ {b : Addr} {m : Str → Option Value}, t.heap.Ns b m → (hidT t.heap (scrH K a us ns)).Ns b m := by
    rintro b m ⟨o, es, n, e1, e2, r⟩
    exact ⟨o, es, n, hidT_get e1 (noDict e1 e2), e2, r⟩
  have kin' : K.In (hidT t.heap (scrH K a us ns)) := fun b o e => hidT_get (kin b o e) (by
    cases z : scrH K a us ns b with
    | none => rfl
    | some u =>
      obtain ⟨rfl, n, _⟩ := scrH_some z
      rw [n] at e
      cases e)
  have modl : Mod K mg (hidT t.heap (scrH K a us ns)) := by
    obtain ⟨mc, f1, f2⟩ := free
    exact ⟨kin', ns_of glb, ⟨mb, ns_of blt, boot⟩, ⟨mc, ns_of f1, f2⟩⟩
  have env0 : Env0 P w K mg (hidT t.heap (scrH K a us ns)) callerA [] t (scrH K a us ns) :=
    ⟨rfl, modl, fun b o z => of_hidT z, Nat.le_of_eq (hidT_size _ _), trivial, fun b z => absurd (show b ∈ ([] : List Addr) from z) (by simp), held, .of_eq noG⟩
  refine codeAny_mono ((F _ kin' (ns_of glb)).run callerA [] t _ ⟨[.ref a], []⟩ [.ref a] [.ref a] _ _ rfl room env0 (bind t (.ref a)) (.cons rfl .nil) (wish _ only seq)) fun r s' z => ?_
  cases r with
  | error e => exact (noX _ e s' z).elim
  | ok fl =>
    cases fl with
    | next => exact z.elim
    | brk => exact z.elim
    | cont => exact z.elim
    | ret u =>
      obtain ⟨v, H', os, bare, un, held', rv, q⟩ := z
      cases (show v = .bl true from q)
      cases (show u = Value.bool true from rv)
      refine ⟨rfl, OldK.of_keep fun b o e => ?_, os, bare⟩
      cases c : scrH K a us ns b with
      | none => exact un.keep b o e c (fun z => absurd (show b ∈ ([] : List Addr) from z) (by simp)) (by simp)
      | some u2 =>
        obtain ⟨rfl, _, rfl⟩ := scrH_some c
        obtain ⟨e2, _⟩ := held' _ _ (un.frzs _ _ _ c)
        rw [at_a] at e
        cases e
        exact e2
theorem walkG {l : PySem.W.OpenLaw} {n k : Nat} {q : Program} {loose : List Str} {XP : (Str → Option Value) → Heap → Prop} {YP : World → Heap → Prop} {d : DefRec} {K : Params → PySem.W.Frag} {sp : PySem.W.Frag → Sp} {x : Str}
    (most : l.most = some n) (few : n ≤ sizeLine) (plain : d.params.defaults = []) (room : Room k callerA) (ky : ∀ (w : World) (h : Heap), YP w h → (K w.params).In h)
    (F : ∀ (w : World) (mg : Str → Option Value) (fa : Addr) (h : Heap), (K w.params).In h → h.Ns mainGlobals mg → mg d.name = some (.ref fa) → ∃ fd : FuncData, (∀ (s : Shared) (u : Value), BindsTo s fd ⟨[u], []⟩ [(x, u)]) ∧
      ∀ base : Heap, (K w.params).In base → base.Ns mainGlobals mg → FnG l.prog w (K w.params) mg base CX0 k fa fd [x] (sp (K w.params)))
    (wish : ∀ (K : PySem.W.Frag) (H : Hp) (a : Addr) (ns : List Int), ns.length ≤ n → Only H → SqL K H a (ns.map V.int) → sp K [.ref a] H (fun v _ => v = .bl true) fun _ _ _ => False) :
    PySem.W.WalkO q loose XP YP l.row.toRowW d [] (fun f vs => PySem.call f vs) := by
  refine Att.attach_call most plain ?_
  intro w s0 t mg mb fa o pm cd doc a us ns G Y ho hd hcd hmg at_a isI many noG
  obtain ⟨fd, bind, ok⟩ := F w mg fa _ (ky w _ Y) G.T.g hmg
  exact lawG (ky w _ Y) G.T.g G.T.b G.T.builtins G.T.nolimit noG at_a isI (Nat.le_trans many few) room ok bind (fun H o1 o2 => wish (K w.params) H a ns many o1 o2) fun _ _ _ z => z.elim
end AL
set_option Elab.async false
set_option maxRecDepth 100000
set_option maxHeartbeats 4000000
/-! Own exceptions held as values: made, their fields read, asked for their class. -/
namespace PySem
open PySem.W PySem.Calls PyProof.Rows
section
variable {prog : Program} {w : World} {A : Around} {E : Value → Shared → Prop} {s : Shared} {K : Frag} {x D : Addr} {ox : Obj} {od : Option Obj}
/-- a data descriptor of the class is found ahead of the own dict -/
theorem al_findObj {C : Addr} {n : Str} {a g : Value} (hc : (clsIn K C).isSome = true) (ha : findIn K (.ref C) n = some (some a)) (hg : specialIn K a "__get__" = some (some g)) (ht : takesIn K a = some true) : findObj K C od n = some (.bind g a) := by
  obtain ⟨cd, e⟩ := Option.isSome_iff_exists.mp hc
  unfold findObj
  rw [e, Option.bind_some, ha, Option.bind_some]
  simp [hg, ht]
/-- e.__class__ of an own exception, whatever its dict holds -/
theorem al_class {Q : Option Value → Shared → Prop} (T : L2.ExcC K D) (X : K.In s.heap) (J : InstAt s.heap x ox D od) (h : Q (some (.ref D)) { s with toks := s.toks + 1 }) : wpAny (model prog w) A (getAttr? (.ref x) "__class__") Q E s := by
  have hf : findObj K D od "__class__" = some (.bind (.builtin "getset_descriptor.__get__") (.builtin "object.__class__")) := al_findObj (by
    obtain ⟨cd, e, _⟩ := any_some T.hd
    rw [e]; rfl) T.ha T.hn T.ht
  obtain ⟨hp, ge, dr, tk, os⟩ := s
  have ty := J.type (M := model prog w)
  have l1 := looks_findIn (M := model prog w) X T.hg
  have l2 := looks_findIn (M := model prog w) X T.hk
  have l3 := looks_find (M := model prog w) X J hf
  have isExc : Looks (model prog w) hp (isInstance (.ref x) (.type "BaseException")) true := ty.andThen (looks_subIn X T.hs)
  have f0 : (false && onTheHeap (Value.builtin "BaseException.__getattribute__")) = false := rfl
  have f1 : (onTheHeap (Value.ref D) && Value.builtin "BaseException.__getattribute__" == Value.builtin "object.__getattribute__") = false := by
    rw [show (Value.builtin "BaseException.__getattribute__" == Value.builtin "object.__getattribute__") = false by decide +kernel]; rfl
  unfold getAttr? getAttrBy? getAttrBy
  refine wpAny_bind (wpAny_mkText (wpAny_bind (wpAny_attempt (wpAny_holding (wpAny_bind (ty.at (wpAny_bind (l1.at ?_))))))))
  show wpAny _ _ (if (onTheHeap (Value.ref D) && Value.builtin "BaseException.__getattribute__" == Value.builtin "object.__getattribute__") = true then _ else _) _ _ _
  rw [f1, if_neg Bool.false_ne_true]
  unfold getAttrByItsOwn hookBefore
  refine wpAny_bind ?_
  have onHp : onTheHeap (Value.ref D) = true := rfl
  rw [if_pos onHp]
  refine l2.at ?_; refine wpAny_bind (wpAny_attempt (wpAny_holding ?_))
  unfold callGetattribute
  rw [f0, if_neg Bool.false_ne_true]
  unfold boundAndCalled
  rw [PySem.F.excAttr_ValueError.ga.bind (.ref x)]
  refine wpAny_bind (wpAny_pure ?_)
  show wpAny _ _ (call (.builtin "BaseException.__getattribute__") [.ref x, .str "__class__" tk]) _ _ _
  refine wpAny_call (codeAny_call_builtin PySem.F.excAttr_ValueError.ga.plain PySem.F.entry_bexc_ga (@check_slot (model prog w) _ _ ⟨hp, ge, dr, tk + 1, os⟩ "BaseException.__getattribute__" "BaseException" "__getattribute__" (.ref x) [.str "__class__" tk] [] _ (by decide +kernel) (by decide +kernel) isExc (PySem.F.args_bexc_ga (.ref x) (.str "__class__" tk)) ?_))
  unfold Builtin.«object.__getattribute__»
  refine wpAny_bind (wpAny_of_eq (a := ((Value.ref x : Value), [Value.str "__class__" tk])) (by first | rfl | (simp only [slotArgs]; rfl)) (wpAny_bind (wpAny_pure (wpAny_bind (ty.at (wpAny_bind (l3.at ?_)))))))
  show wpAny _ _ (holding [Value.builtin "object.__class__"] (call (.builtin "getset_descriptor.__get__") [.builtin "object.__class__", .ref x, .ref D]) >>= ret) _ _ _
  refine wpAny_bind (wpAny_holding (wpAny_call (class_get (s := ⟨hp, ge, dr, tk + 1, os⟩) (ox := ox) (od := od) X J T.hm (wpAny_pure ?_))))
  show wpAny _ _ (handedOut (.ref D)) _ _ _
  rw [handedOut_of (v := .ref D) rfl]
  first
    | exact wpAny_pure (wpAny_pure h)
    | exact wpAny_pure h
    | exact wpAny_pure (wpAny_bind (wpAny_pure (wpAny_pure h)))
theorem al_kitx (T : L2.ExcC K D) : KitX K (.ref x) (.ref D) (fun h => InstAt h x ox D od) := by
  obtain ⟨cd, ecd, _⟩ := any_some T.hd
  have there : ∃ o, K.lookup D = some o ∧ ∀ its n, o.data ≠ .seq its n := by
    unfold clsIn at ecd
    split at ecd
    · rename_i c' d' cd' sl' ho
      exact ⟨_, ho, fun _ _ z => by cases z⟩
    · cases ecd
  constructor
  case ty => exact fun _ _ _ J => J.type
  case it =>
    intro _ _ X _
    unfold clsIn at ecd
    split at ecd
    · rename_i c' d' cd' sl' ho
      intro A' Q' E' s' kk q
      unfold isType loadHead
      exact wpAny_bind (wpAny_loadPart (kk _ _ (X _ _ ho)) (wpAny_pure q))
    · cases ecd
  case ne =>
    intro h tp dd its n sl X htp
    refine Bool.eq_false_iff.mpr fun q => ?_
    have e : D = tp := Value.ref.inj (beq_iff_eq.mp q)
    subst e
    obtain ⟨o, ho, no⟩ := there
    have z := (X _ _ ho).symm.trans htp
    cases z
    exact no _ _ rfl
  case ca => exact fun X J kk => al_class T X J kk
end
end PySem
namespace AL
open PySem PySem.Spec PyProof.Rows L2
/-- C(e, ..), a value -/
def tMkV (C : Addr) (sp : Sp) (ta : TA) : TE := fun σ H Q => ta σ H fun vs H1 => vs.length ≤ 1000 ∧ ∀ a, H1 a = none → sp (.ref a :: vs) (upd H1 a (exo a C none)) (fun v H2 => v = .non ∧ Q (.ref a) H2) fun _ _ _ => False
/-- e.f of such a value -/
def tFv (K : PySem.W.Frag) (f : Str) (te : TE) : TE := fun σ H Q => te σ H fun x H1 => ∃ (a C dx : Addr) (fs : List (Str × V)) (v : V), x = .ref a ∧ XfC K C ∧ PySem.W.findIn K (.ref C) f = some none ∧
  H1 a = some (exo a C (some dx)) ∧ H1 dx = some (exd dx fs) ∧ fs.lookup f = some v ∧ Q v H1
/-- isinstance(e, c) of such a value -/
def rIsV (K : PySem.W.Frag) : List V → Hp → VK → Prop := fun vs H Q => ∃ (a C : Addr) (c : V) (u : Value) (b : Bool), vs = [.ref a, c] ∧ ExcC K C ∧ ((∃ dx fs, H a = some (exo a C (some dx)) ∧ H dx = some (exd dx fs)) ∨ H a = some (ExO (.ref C) a)) ∧
  ClsV c u ∧ PySem.W.kitOne K (.ref C) u = some b ∧ Q (.bl b) H
section
variable {X : Cx} {x : Str} {C fI : Addr} {k : Nat} {fd : FuncData} {ps : List Str} {sp : Sp} {e : Expr} {es : List Expr} {ta : TA} {te : TE} {p pos : Pos} {CX : CXT}
theorem pe_mkV (T : OexC X.K C) (hi : PySem.W.findIn X.K (.ref C) "__init__" = some (some (.ref fI))) (ht : PySem.W.typeIn X.K (.ref fI) = some (.type "function")) (F : FnOk X.prog X.w X.K X.mg X.base CX k fI fd ps sp)
    (room : Room (k + 1) X.A) (hb : Binds X.K fd ps []) (out : Passes CX X fun _ _ _ => False) (hg : Gl X x) (hm : X.mg x = some (.ref C)) (ha : PA X (e :: es) ta) (nd : (x == ("__debug__" : Str)) = false := by decide)
    (s1 : starEach (e :: es) X.env = (false, eval e X.env) :: starEach es X.env := by rfl) (s2 : (backTo pos (starEach es X.env)).any (·.1) = false := by rfl) : PE X (.Call (.Name x p) (e :: es) [] pos) (tMkV C sp ta) := by
  constructor
  intro pins s σ H Q I h
  obtain ⟨_, _, _, _, bm, _, _, _, _, _, _, _, _, _, _, look, isVE⟩ := T.cls
  refine wpAny_Call_Name_kw (ld_glob I hg hm (PySem.W.callWith_K (h₀ := X.base) I.ok.mod.kin T.kC (thn (ha.run pos pins s σ H _ I h) fun us sA hA => ?_) s1 s2) nd)
  obtain ⟨vs, H1, J, rv, few, wish⟩ := hA
  refine ⟨J.kIn, ?_⟩
  show wpAny _ _ (call (.ref C) us) _ _ _
  obtain ⟨hp, ge, dr, tk, os⟩ := sA
  have bound : hp.objs.size ≤ hp.objs.size + 1 := Nat.le_succ _
  have fresh : H1 (hp.objs.size + 1) = none := J.hok.fresh bound
  have goal := wish _ fresh
  have keep : ∀ b o, hp.get? b = some o → ((hp.push (PySem.W.kdv_tup us)).push (PySem.HandSPX.excO C hp.objs.size)).get? b = some o := fun b o z => Heap.get?_push_of_some _ (Heap.get?_push_of_some _ z)
  have there : ((hp.push (PySem.W.kdv_tup us)).push (PySem.HandSPX.excO C hp.objs.size)).get? (hp.objs.size + 1) = some (PySem.HandSPX.excO C hp.objs.size) := by heap_get
  have J2 : Inv X pins σ (upd H1 (hp.objs.size + 1) (exo (hp.objs.size + 1) C none)) ⟨(hp.push (PySem.W.kdv_tup us)).push (PySem.HandSPX.excO C hp.objs.size), ge, dr, tk, os⟩ := J.laid (t' := tk) keep bound (exo_ok there)
  have rv2 : Vals (V.ref (hp.objs.size + 1) :: vs) (Value.ref (hp.objs.size + 1) :: us) := .cons rfl rv
  have many : (Value.ref (hp.objs.size + 1) :: us).length = ps.length := rv2.length.symm.trans (F.len _ _ _ _ goal)
  have few' : us.length ≤ sizeLine := by
    have z := rv.length
    rw [sizeLine_eq]
    omega
  have bd : BindsTo ⟨(hp.push (PySem.W.kdv_tup us)).push (PySem.HandSPX.excO C hp.objs.size), ge, dr, tk, os⟩ fd ⟨Value.ref (hp.objs.size + 1) :: us, []⟩ (ps.zip (Value.ref (hp.objs.size + 1) :: us)) := by
    have z := hb ⟨(hp.push (PySem.W.kdv_tup us)).push (PySem.HandSPX.excO C hp.objs.size), ge, dr, tk, os⟩ (Value.ref (hp.objs.size + 1) :: us) J2.kIn (by rw [List.append_nil]; exact many)
    rw [List.append_nil] at z
    exact z
  refine wpAny_call (PySem.HandSPX.call_own PySem.F.excBase_ValueError (fun Y => PySem.HandSPX.refsVE_contains Y bm isVE) (J.kIn _ _ look) (PySem.W.looks_findIn J.kIn hi) (fun self => PySem.W.bind_fn J.kIn self ht) few' (codeAny_mono
    (F.run _ X.stack _ _ ⟨Value.ref (hp.objs.size + 1) :: us, []⟩ (Value.ref (hp.objs.size + 1) :: us) _ _ (fun _ _ _ => False) (room.make C us []) (J2.env0.make C us []) bd rv2 goal) fun r sB hB => ?_))
  cases r with
  | error er => exact out pins σ _ _ er sB J2 hB
  | ok fl =>
    cases fl with
    | next => exact hB.elim
    | brk => exact hB.elim
    | cont => exact hB.elim
    | ret u =>
      obtain ⟨v, H2, os2, bare2, un2, hok2, rw2, ev, q2⟩ := hB
      subst ev
      refine ⟨rw2, .ref (hp.objs.size + 1), H2, ?_, rfl, q2⟩
      obtain ⟨h2, g2, d2, t2, os'⟩ := sB
      have un1 : Un (frs X.stack) [] H1 H2 hp h2 := (Un.laid keep bound fresh).trans un2
      exact J.call' (ch := []) os2 un1 hok2 bare2 (fun b z => absurd z (by simp))
theorem pe_fv {n : Str} (he : PE X e te) (hb : attributeBase e n X.env (eval e X.env) = eval e X.env := by rfl) : PE X (.Attribute e n pos) (tFv X.K n te) := by
  constructor
  intro pins s σ H Q I h
  refine attr_of hb (thn (he.run pins s σ H _ I h) fun u sA hA => ?_)
  obtain ⟨y, H1, J, ry, a, C, dx, fs, v, rfl, T, no, ea, ed, l, q⟩ := hA
  cases (show u = Value.ref a from ry)
  obtain ⟨t1, oa⟩ := exo_at J.hok ea
  obtain ⟨mA, hns, rel⟩ := exd_at J.hok ed
  obtain ⟨od, ho, hl⟩ := lookIn_ns hns
  obtain ⟨u, hu, ru⟩ := RelO.some_of (v := v) (o := mA n) (by rw [← l]; exact rel n)
  exact HandSPX.exc_get J.kIn (⟨oa, rfl, rfl, ho⟩ : PySem.W.InstAt sA.heap a _ C (some od)) T.ga T.gg T.exC (PySem.W.findObj_own T.hdC no rfl (by rw [hl, hu])) (handed_of ru) ⟨v, H1, J.tok _, ru, q⟩
theorem call_isV : CallR X (.builtin "isinstance") (rIsV X.K) := by
  intro pins s σ H vs us Q I r h
  obtain ⟨a, C, c, u, b, rfl, T, what, kc, e, q⟩ := h
  obtain ⟨u1, u2, rfl, r1, r2⟩ := vals2 r
  cases (show u1 = Value.ref a from r1)
  cases kc.eq r2
  rcases what with ⟨dx, fs, ea, ed⟩ | ea
  · obtain ⟨t1, oa⟩ := exo_at I.hok ea
    obtain ⟨mA, hns, rel⟩ := exd_at I.hok ed
    obtain ⟨od, ho, hl⟩ := lookIn_ns hns
    exact PySem.W.kia_one (al_kitx T) I.kIn (⟨oa, rfl, rfl, ho⟩ : PySem.W.InstAt s.heap a _ C (some od)) e (fun z => nomatch z) fun tk => ⟨.bl b, H, I.tok tk, rfl, q⟩
  · obtain ⟨⟨oe, fv, oa, ⟨z1, z2⟩, z3, _⟩, _⟩ := I.hok a _ ea
    exact PySem.W.kia_one (al_kitx T) I.kIn (⟨oa, z1, by unfold PySem.W.notCls; rw [z3] <;> rfl, by rw [z2]; trivial⟩ : PySem.W.InstAt s.heap a oe C none) e (fun z => nomatch z) fun tk => ⟨.bl b, H, I.tok tk, rfl, q⟩
/-- C() of an own class over ValueError without __init__ -/
theorem pe_mkV0 {bmB : List Value} {B newId initId : String} (F : ExcBaseFacts B newId initId bmB) (ex : PySem.W.excIn X.K C bmB newId = true) (hm : X.mg x = some (.ref C)) (kp : PySem.W.keepIn X.K (.ref C) = true) (hg : Gl X x) (nd : (x == ("__debug__" : Str)) = false := by decide) :
    PE X (.Call (.Name x p) [] [] pos) (fun _ H Q => ∀ a, H a = none → Q (.ref a) (upd H a (ExO (.ref C) a))) := by
  constructor
  intro pins s σ H Q I h
  refine wpAny_Call_Name_kw (ld_glob I hg hm (PySem.W.callWith_K0 I.kIn kp ?_) nd)
  obtain ⟨bm, N, nm, qn, bs, hd, sn, sub, ab, col, dd, c0, c1, c2, c3, c5, mN, hC, hN, hni, T⟩ := exc_obj I.kIn ex
  obtain ⟨hp, ge, dr, tk, os⟩ := s
  refine wpAny_call_exc_subT F T hC hN hni (fun h2 a made => ?_) (Nat.zero_le _)
  have fresh : H a = none := I.hok.gone made.new
  obtain ⟨t, here, _, _⟩ := made.there
  exact ⟨.ref a, upd H a (ExO (.ref C) a), I.laidN (t' := tk) made.keeps made.new fresh (exO_ok here ⟨rfl, rfl⟩ rfl rfl rfl (show 4 < 6 by decide)), rfl, h a fresh⟩
end
end AL
set_option Elab.async false
set_option maxRecDepth 100000
set_option maxHeartbeats 2000000
/-! Own error classes of the program: what the top writes of them, as one Bool a class. -/
namespace AL
open PySem PySem.Spec PyProof.Rows L2
/-- all that is asked of an own error class, but its row -/
def errB (K : PySem.W.Frag) (C : Addr) (fs : List Str) : Bool :=
  decide (PySem.W.findIn K (.ref C) "__setattr__" = some (some (.builtin "object.__setattr__"))) && (decide (PySem.W.subIn K (.ref C) (.type "BaseException") = some true) && (decide (PySem.W.typeIn K (.ref C) = some (.type "type")) && (PySem.W.keepIn K (.ref C) &&
  (xfB K C && (decide (PySem.W.findIn K (.ref C) "__class__" = some (some (.builtin "object.__class__"))) && (decide (PySem.W.specialIn K (.builtin "object.__class__") "__get__" = some (some (.builtin "getset_descriptor.__get__"))) &&
  (decide (PySem.W.takesIn K (.builtin "object.__class__") = some true) && (decide (PySem.W.mroIn K C (.type "object") = some true) && fs.all fun f => decide (PySem.W.findIn K (.ref C) f = some none)))))))))
structure ErrT (K : PySem.W.Frag) (mg : Str → Option Value) (x : Str) (C : Addr) (fs : List Str) : Prop where
  oex : OexC K C
  xf : XfC K C
  ex : ExcC K C
  m : mg x = some (.ref C)
  no : ∀ f ∈ fs, PySem.W.findIn K (.ref C) f = some none
theorem errT_of {K : PySem.W.Frag} {mg : Str → Option Value} {x : Str} {C : Addr} {fs : List Str} {nm q : Str} {N : Addr} {bs bm : List Value} {sn : List Str} {sub : List Value} {ab : Bool} {col : Option Bool} {dd : Option Addr} {k0 k1 k2 k3 k5 : Option Value}
    (row : K.lookup C = some (excClassObj nm q C N bs bm true sn sub ab col dd k0 k1 k2 k3 k5 "ValueError.__new__")) (bmo : PySem.HandSPX.refsVE bm = true) (m : mg x = some (.ref C)) (b : errB K C fs = true) : ErrT K mg x C fs := by
  unfold errB at b
  simp only [Bool.and_eq_true, decide_eq_true_eq, List.all_eq_true] at b
  obtain ⟨b1, b2, b3, b4, b5, b6, b7, b8, b9, b10⟩ := b
  have X := xfB_ok b5
  exact ⟨⟨⟨_, _, _, _, _, _, _, _, _, _, _, _, _, _, _, row, bmo⟩, b1, b2, b3, b4⟩, X, ⟨X.ga, X.gg, b2, X.hdC, b6, b7, b8, b9⟩, m, b10⟩
/-- its own __init__ -/
structure IniT (K : PySem.W.Frag) (qual : Str) (st : Stmt) (ps : List Str) (C fI : Addr) (fd : FuncData) : Prop where
  F : Fun K "__init__" qual st fI fd
  b : Binds K fd ps []
  fi : PySem.W.findIn K (.ref C) "__init__" = some (some (.ref fI))
  ti : PySem.W.typeIn K (.ref fI) = some (.type "function")
/-- __init__(self, f1, ..): the fields are stored -/
def spIni (C : Addr) (fs : List Str) : Sp := fun vs H Q _ => ∃ (a : Addr) (ys : List V), vs = .ref a :: ys ∧ ys.length = fs.length ∧ H a = some (exo a C none) ∧
  ∀ (dx : Addr) (H' : Hp), H dx = none → dx ≠ a → H' a = some (exo a C (some dx)) → H' dx = some (exd dx (fs.zip ys).reverse) → (∀ b, b ≠ a → b ≠ dx → H' b = H b) → Q .non H'
/-- an error of the class at C stands at e -/
def EV (H : Hp) (e C : Addr) : Prop := (∃ dx fs, H e = some (exo e C (some dx)) ∧ H dx = some (exd dx fs)) ∨ H e = some (ExO (.ref C) e)
theorem EV.same {H H' : Hp} {e C : Addr} (h : EV H e C) (s : Same H H') : EV H' e C := by
  rcases h with ⟨dx, fs, h1, h2⟩ | h
  · exact .inl ⟨dx, fs, s _ _ h1, s _ _ h2⟩
  · exact .inr (s _ _ h)
theorem vi_eq {i j : Nat} (h : decide (V.int (i : Int) = V.int (j : Int)) = true) : i = j := by
  have z := of_decide_eq_true h
  injection z with z
  omega
theorem vi_ne {i j : Nat} (h : ¬ decide (V.int (i : Int) = V.int (j : Int)) = true) : i ≠ j := fun e => h (by subst e; exact decide_eq_true rfl)
end AL
set_option Elab.async false
set_option maxRecDepth 100000
set_option exponentiation.threshold 3000
/-! Data that stay, and that can be shown. -/
namespace AL
open PySem L2
mutual
theorem dp_mono {K : PySem.W.Frag} {H H' : Hp} (kl : ∀ a xs, SqL K H a xs → SqL K H' a xs) (kt : ∀ a xs, SqT K H a xs → SqT K H' a xs) : ∀ (d : PyData) (v : V), Dp K H v d → Dp K H' v d
  | .none, _, h => by cases h; exact .non
  | .bool b, _, h => by cases h; exact .bl b
  | .int i, _, h => by cases h; exact .int i
  | .str x, _, h => by cases h; exact .str x
  | .list ds, _, h => by
    cases h with
    | lst hs ha => exact .lst (kl _ _ hs) (dpAll_mono kl kt ds _ ha)
  | .tuple ds, _, h => by
    cases h with
    | tup hs ha => exact .tup (kt _ _ hs) (dpAll_mono kl kt ds _ ha)
  | .dict _, _, h => by cases h
theorem dpAll_mono {K : PySem.W.Frag} {H H' : Hp} (kl : ∀ a xs, SqL K H a xs → SqL K H' a xs) (kt : ∀ a xs, SqT K H a xs → SqT K H' a xs) : ∀ (ds : List PyData) (vs : List V), DpAll K H vs ds → DpAll K H' vs ds
  | [], _, h => by cases h; exact .nil
  | d :: ds, _, h => by
    cases h with
    | cons h1 h2 => exact .cons (dp_mono kl kt d _ h1) (dpAll_mono kl kt ds _ h2)
end
theorem same_seqT {K : PySem.W.Frag} {H H' : Hp} {a : Addr} {xs : List V} (e : Same H H') (h : SqT K H a xs) : SqT K H' a xs := by
  rcases h with (h | ⟨o, h⟩) | h
  · exact .inl (.inl (e _ _ h))
  · exact .inl (.inr ⟨o, e _ _ h⟩)
  · exact .inr h
theorem dp_same {K : PySem.W.Frag} {H H' : Hp} {v : V} {d : PyData} (s : Same H H') (h : Dp K H v d) : Dp K H' v d := dp_mono (fun _ _ z => Same.seq s z) (fun _ _ z => same_seqT s z) d v h
theorem dp_keep {K : PySem.W.Frag} {H H' : Hp} {p c : Addr} {m : Nat} {v : V} {d : PyData} (k : Keep p H H') (P : Pen H p c m) (h : Dp K H v d) : Dp K H' v d := dp_mono (fun _ _ z => k.seqL P z) (fun _ _ z => k.seqT P z) d v h
/-- can be shown, by few signs -/
structure OkD (d : PyData) : Prop where
  sh : d.showable = true
  nd : d.hasDict = false
  dp : d.depth ≤ 10
  ln : d.shown.length ≤ 1000
/-- some data that can be shown -/
def Datum (K : PySem.W.Frag) (H : Hp) (v : V) : Prop := ∃ d, Dp K H v d ∧ OkD d
theorem Datum.same {K : PySem.W.Frag} {H H' : Hp} {v : V} (h : Datum K H v) (s : Same H H') : Datum K H' v := by
  obtain ⟨d, h1, h2⟩ := h
  exact ⟨d, dp_same s h1, h2⟩
theorem Datum.keep {K : PySem.W.Frag} {H H' : Hp} {p c : Addr} {m : Nat} {v : V} (h : Datum K H v) (k : Keep p H H') (P : Pen H p c m) : Datum K H' v := by
  obtain ⟨d, h1, h2⟩ := h
  exact ⟨d, dp_keep k P h1, h2⟩
theorem datum_non {K : PySem.W.Frag} {H : Hp} : Datum K H .non := ⟨.none, .non, by decide +kernel, by decide +kernel, by decide +kernel, by decide +kernel⟩
theorem datum_bl {K : PySem.W.Frag} {H : Hp} (b : Bool) : Datum K H (.bl b) := by
  refine ⟨.bool b, .bl b, rfl, rfl, by show 0 ≤ 10; decide, ?_⟩
  cases b <;> decide +kernel
theorem okD_int {i : Int} (h : i.natAbs < 10 ^ 400) : OkD (.int i) := by
  have h2 : i.natAbs < 2 ^ 1920 := Nat.lt_trans (Nat.lt_of_lt_of_le h (Nat.pow_le_pow_right (by decide) (by decide : 400 ≤ 402))) pow402
  refine ⟨decide_eq_true (log2_small (by decide) h2), rfl, by show 0 ≤ 10; decide, ?_⟩
  show (Str.ofString (toString i)).length ≤ 1000
  have e : (Str.ofString (toString i)).length = (toString i).length := by
    rw [Str.ofString_eq_toList]
    show (((toString i).toList.map Char.toNat).toArray).size = _
    rw [List.size_toArray, List.length_map, String.length_toList]
  rw [e]
  have := int_text_length_le10 (by decide) h
  omega
theorem datum_int {K : PySem.W.Frag} {H : Hp} {i : Int} (h : i.natAbs < 10 ^ 400) : Datum K H (.int i) := ⟨.int i, .int i, okD_int h⟩
theorem datum_str {K : PySem.W.Frag} {H : Hp} {z : Str} (h : z.length ≤ 90) (hc : ∀ c ∈ z.cps.toList, c < 128) : Datum K H (.str z) := by
  refine ⟨.str z, .str z, rfl, rfl, by show 0 ≤ 10; decide, ?_⟩
  show (reprText z).length ≤ 1000
  have := StrLaws.reprText_len z (fun c hcc => Nat.lt_trans (hc c hcc) (by decide))
  omega
theorem okD_tup : ∀ (ds : List PyData), ds.length ≤ 3 → (∀ d ∈ ds, OkD d) → (PyData.tuple ds).showable = true ∧ (PyData.tuple ds).hasDict = false ∧ (PyData.tuple ds).depth ≤ 60 ∧ (PyData.tuple ds).shown.length ≤ sizeLine := by
  intro ds hl h
  have all : ∀ (ds : List PyData), (∀ d ∈ ds, OkD d) → PyData.showableAll ds = true ∧ PyData.hasDictAll ds = false ∧ PyData.depthAll ds ≤ 10 ∧ ((PyData.shownAll ds).map (·.length)).sum ≤ 1000 * ds.length ∧ (PyData.shownAll ds).length = ds.length := by
    intro ds
    induction ds with
    | nil => intro _; exact ⟨rfl, rfl, by decide, by decide, rfl⟩
    | cons d ds ih =>
      intro h
      obtain ⟨a1, a2, a3, a4, a5⟩ := ih fun x hx => h x (List.mem_cons_of_mem _ hx)
      have o := h d List.mem_cons_self
      have o1 := o.sh
      have o2 := o.nd
      have o3 := o.dp
      have o4 := o.ln
      refine ⟨?_, ?_, ?_, ?_, ?_⟩
      · simp only [PyData.showableAll, o1, a1, Bool.and_self]
      · simp only [PyData.hasDictAll, o2, a2, Bool.or_self]
      · simp only [PyData.depthAll]; omega
      · simp only [PyData.shownAll, List.map_cons, List.sum_cons, List.length_cons]; omega
      · simp only [PyData.shownAll, List.length_cons, a5]
  obtain ⟨a1, a2, a3, a4, a5⟩ := all ds h
  refine ⟨?_, ?_, ?_, ?_⟩
  · simpa only [PyData.showable] using a1
  · simpa only [PyData.hasDict] using a2
  · simp only [PyData.depth]; omega
  · simp only [PyData.shown]
    have := tupleText_len_le (PyData.shownAll ds)
    rw [a5] at this
    refine Nat.le_trans this ?_
    refine Nat.le_trans (show _ ≤ 10000 by omega) (by decide)
theorem dpAll_bl {K : PySem.W.Frag} {H : Hp} : ∀ l : List Bool, DpAll K H (l.map V.bl) (l.map PyData.bool)
  | [] => .nil
  | b :: l => .cons (.bl b) (dpAll_bl l)
theorem shaped_bl (l : List Bool) : SeqAt.shaped (.list (l.map PyData.bool)) = true := by
  have h1 : ∀ l : List Bool, PyData.canLayAll0 (l.map PyData.bool) = true ∧ PyData.depthAll (l.map PyData.bool) = 0 := by
    intro l
    induction l with
    | nil => exact ⟨rfl, rfl⟩
    | cons b l ih => exact ⟨by simp [PyData.canLayAll0, PyData.canLay0, ih.1], by simp [PyData.depthAll, PyData.depth, ih.2]⟩
  unfold SeqAt.shaped
  rw [show PyData.canLay0 (.list (l.map PyData.bool)) = true by simpa [PyData.canLay0] using (h1 l).1]
  simp [PyData.depth, (h1 l).2]
end AL
set_option Elab.async false
set_option maxRecDepth 100000
namespace AL
open PySem L2
def top (i : Nat) : Stmt := PySem.Challenge.pw_allscales_k02_errors.main.body.getD i (.Pass ⟨0, 0, 0, 0⟩)
section
variable {P : Program} {w : World} {K : PySem.W.Frag} {mg : Str → Option Value} {base : Heap}
abbrev st_law_pen : Stmt := top 22
theorem sc_law_pen : FnScope ["_law_script", "_law_fold", "_law_cell"] ["_law_script"] (defScope st_law_pen) := ⟨rfl, rfl, rfl, by decide +kernel, rfl, by decide +kernel, by decide +kernel⟩
theorem ok_law_pen (B : Blt mg)  {f_law_pen : Addr} {fd_law_pen : FuncData} (D_law_pen : DefAt K mg "_law_pen" st_law_pen ["_law_script"] f_law_pen fd_law_pen) : FnOk P w K mg base CX0 1 f_law_pen fd_law_pen ["_law_script"] (spPen K) := by
  refine D_law_pen.F.ok sc_law_pen (fun vs H Q E h => ?_) (fun cdv A outer s H vs Q E hr h => ?_)
  · obtain ⟨a, ns, rfl, _⟩ := h; rfl
  · have hu := hu_of hr
    refine ⟨_, (pss_cons (ps_set (i := 1) sc_law_pen.nd rfl (Or.inl rfl) pe_int)
    (pss_cons (ps_for PassesOwn.never rfl (pi_list (pv 0)) (pg_name (i := 2) sc_law_pen.nd rfl (Or.inl rfl))
      (pss_one (ps_set (i := 1) sc_law_pen.nd rfl (Or.inl rfl) (pe_op op_modN (pe_callTy call_int1 (by rfl) B.int_ (by decide +kernel) (pa_cons (pe_op op_add (pe_op op_mul (pv 1) pe_int) (pv 2)) pa_nil)) pe_int))))
    (pss_one (ps_ret (pe_disp (pps_cons pe_str (pe_callTy call_list_of (by rfl) B.list_ (by decide +kernel) (pa_cons (pv 0) pa_nil)) (pps_cons pe_str pe_int (pps_cons pe_str pe_int (pps_cons pe_str pe_int (pps_cons pe_str (pv 1) pps_nil))))) (by rfl) (by rfl) (fun z => by cases z) (by decide)))))), ?_⟩
    obtain ⟨a, ns, rfl, hS, k⟩ := h
    refine ⟨_, rfl, a, rfl, ⟨_, hS⟩, for_list (K := K) (a := a) (xs := ns.map V.int) (fun i σ H' => ∃ (f : Int) (v : Option V), σ = [some (.ref a), some (.int f), v] ∧ H' = H ∧ 0 ≤ f ∧ f < 2147483648) ⟨0, none, rfl, rfl, by decide, by decide⟩ (fun i σ H' _ ⟨_, _, _, e, _⟩ => by rw [e]; exact hS) ?_ ?_⟩
    · rintro i y σ H' hi ⟨f, v, rfl, rfl, h0, h1⟩
      obtain ⟨z, hz, rfl⟩ := map_int hi
      refine ⟨_, rfl, _, _, rfl, rfl, .inr ⟨by decide, by decide⟩, _, rfl, _, _, rfl, rfl, .inl ⟨_, rfl, _, _, rfl, rfl, (by show (1000000007 : Int) ≠ 0; decide), ?_⟩⟩
      have hb := fmod_in (a := f * 41 + z) (b := 1000000007) (by decide)
      exact ⟨_, _, rfl, rfl, hb.1, by omega⟩
    · rintro σ H' ⟨f, v, rfl, rfl, h0, h1⟩
      intro p hp
      refine ⟨_, rfl, a, _, rfl, .inl (Same.seq (AL.Same.new hp) hS), fun l hl => ?_⟩
      have hlp : p ≠ l := fun e => by rw [e, upd_same] at hl; cases hl
      have hl0 : H' l = none := by rw [upd_ne hlp.symm] at hl; exact hl
      refine ⟨_, rfl, Eq.trans (upd_ne hlp) upd_same, penK l 0 0 0 f, rfl, (by show 5 ≤ 15; decide), ?_⟩
      refine k p l _ hp hl0 hlp ⟨ns, 0, 0, 0, f, Eq.trans upd_same (by kernel_rfl), ?_, by decide, by decide, by decide, by decide, h0, h1⟩ fun b o e => ?_
      · rw [upd_ne hlp.symm, upd_same]
      · rw [upd_ne (ne_of_none e hp), upd_ne (ne_of_none e hl0), upd_ne (ne_of_none e hp)]; exact e
abbrev st_law_draw : Stmt := top 23
theorem sc_law_draw : FnScope ["_law_pen_here", "_law_many", "_law_cell", "_law_digit", "_law_blend"] ["_law_pen_here", "_law_many"] (defScope st_law_draw) := ⟨rfl, rfl, rfl, by decide +kernel, rfl, by decide +kernel, by decide +kernel⟩
theorem ok_law_draw (B : Blt mg)  {f_law_draw : Addr} {fd_law_draw : FuncData} (D_law_draw : DefAt K mg "_law_draw" st_law_draw ["_law_pen_here", "_law_many"] f_law_draw fd_law_draw) : FnOk P w K mg base CX0 1 f_law_draw fd_law_draw ["_law_pen_here", "_law_many"] spDraw := by
  refine D_law_draw.F.ok sc_law_draw (fun vs H Q E h => ?_) (fun cdv A outer s H vs Q E hr h => ?_)
  · obtain ⟨p, c, m, k, rfl, _⟩ := h; rfl
  · have hu := hu_of hr
    refine ⟨_, (pss_cons (ps_dput hu (pv 0) pe_str (pe_op op_add (pe_dget hu (pv 0) pe_str (fun _ _ => rfl)) pe_int) rfl)
    (Evl.pss_cut (ps_if (PW.pt (pw_and (pt_cmpR op_eq (pe_dget hu (pv 0) pe_str (fun _ _ => rfl)) pe_int (nomark _)) (pw_and1 (pt_cmpR op_lt (pe_dget hu (pv 0) pe_str (fun _ _ => rfl)) (pe_callB call_len_seq (by rfl) B.len_ (by decide +kernel) (pa_cons (pe_dget hu (pv 0) pe_str (fun _ _ => rfl)) pa_nil)) (nomark _))))) (pss_cons (ps_set (i := 2) sc_law_draw.nd rfl (Or.inl rfl) (pe_ix ix_seq (pe_dget hu (pv 0) pe_str (fun _ _ => rfl)) (pe_dget hu (pv 0) pe_str (fun _ _ => rfl)) (fun _ _ => rfl)))
    (pss_cons (ps_dput hu (pv 0) pe_str (pe_op op_add (pe_dget hu (pv 0) pe_str (fun _ _ => rfl)) pe_int) rfl)
    (pss_one (ps_if (pt_cmpR op_ge (pv 2) (pe_op op_pow pe_int pe_int) (nomark _)) (pss_one (ps_dput hu (pv 0) pe_str (pe_op op_sub (pv 2) (pe_op op_pow pe_int pe_int)) rfl)) (pss_one (ps_dput hu (pv 0) pe_str (pe_op op_modN (pe_callTy call_int1 (by rfl) B.int_ (by decide +kernel) (pa_cons (pe_op op_add (pe_op op_mul (pe_dget hu (pv 0) pe_str (fun _ _ => rfl)) pe_int) (pv 2)) pa_nil)) pe_int) rfl)))))) pss_nil)
    (pss_cons (ps_if (pt_cmpR op_gt (pe_dget hu (pv 0) pe_str (fun _ _ => rfl)) pe_int (nomark _)) (pss_cons (ps_set (i := 3) sc_law_draw.nd rfl (Or.inl rfl) (pe_op op_modN (pe_callTy call_int1 (by rfl) B.int_ (by decide +kernel) (pa_cons (pe_dget hu (pv 0) pe_str (fun _ _ => rfl)) pa_nil)) (pv 1)))
    (pss_cons (ps_dput hu (pv 0) pe_str (pe_op op_fdivN (pe_dget hu (pv 0) pe_str (fun _ _ => rfl)) (pv 1)) rfl)
    (pss_one (ps_ret (pv 3))))) pss_nil)
    (pss_cons (ps_set (i := 4) sc_law_draw.nd rfl (Or.inl rfl) (pe_op op_add (pe_op op_add (pe_dget hu (pv 0) pe_str (fun _ _ => rfl)) (pe_op op_mul (pe_dget hu (pv 0) pe_str (fun _ _ => rfl)) pe_int)) pe_int))
    (pss_one (ps_ret (pe_op op_modN (pe_op op_fdivN (pe_callTy call_int1 (by rfl) B.int_ (by decide +kernel) (pa_cons (pe_op op_modN (pe_op op_pow (pv 4) pe_int) pe_int) pa_nil)) pe_int) (pv 1)))))))), ?_⟩
    obtain ⟨p, c, m, k, rfl, P, hm, hk0, hk1, q⟩ := h
    obtain ⟨ns, i, d, n, f, hp, hc, hi, hd, hn, hnm, hf0, hf1⟩ := P.ex
    have hcp : c ≠ p := fun e => by rw [e, hp] at hc; cases hc
    have s5 : (5 : Nat) < sizeLine := by decide
    -- count
    refine ⟨_, rfl, p, _, rfl, dget (k := Sum.inr "count") hp pen_count, _, _, rfl, rfl, _, rfl, p, _, rfl, dput (k := Sum.inr "count") hp s5 put_count, ?_⟩
    refine ⟨fun σ' H' => ∃ (i' d' f' : Int) (v : Option V), σ' = [some (.ref p), some (.int k), v, none, none] ∧ H' p = some (.dK (penK c i' d' (n + 1) f')) ∧ 0 ≤ i' ∧ 0 ≤ d' ∧ 0 ≤ f' ∧ f' < 2147483648 ∧ Keep p H H', ?_, ?_⟩
    · -- digits == 0 and at < len(cells)
      have n1 : ∀ {o}, upd H p o c = some (.lst (ns.map V.int)) := fun {o} => by rw [upd_ne hcp]; exact hc
      refine ⟨_, rfl, p, _, rfl, dget (k := Sum.inr "digits") upd_same pen_digits, rfl, _, rfl, ?_⟩
      refine ite2 (fun hd0 => ?_) (fun hd0 => ?_)
      · refine ⟨_, rfl, p, _, rfl, dget (k := Sum.inr "at") upd_same pen_at, _, rfl, p, _, rfl, dget (k := Sum.inr "cells") upd_same pen_cells, c, _, rfl, .inl (SqL.of n1), _, _, rfl, rfl, _, rfl, ?_⟩
        refine ite2 (fun hlt => ?_) (fun hlt => ?_)
        · have hlt' := of_decide_eq_true hlt
          rw [List.length_map] at hlt'
          obtain ⟨j, rfl⟩ := Int.eq_ofNat_of_zero_le hi
          have hj : j < ns.length := by omega
          -- cell, at
          refine ⟨_, rfl, p, _, rfl, dget (k := Sum.inr "cells") upd_same pen_cells, _, rfl, p, _, rfl, dget (k := Sum.inr "at") upd_same pen_at, .inl ⟨c, _, _, .int ns[j], rfl, rfl, SqL.of n1, at_of rfl (by rw [List.getElem?_map, List.getElem?_eq_getElem hj]; rfl), ?_⟩⟩
          refine ⟨_, rfl, p, _, rfl, dget (k := Sum.inr "at") upd_same pen_at, _, _, rfl, rfl, _, rfl, p, _, rfl, dput (k := Sum.inr "at") upd_same s5 put_at, ?_⟩
          refine ⟨_, rfl, _, _, rfl, rfl, ⟨by decide, by decide, by decide⟩, _, _, rfl, rfl, _, rfl, ?_⟩
          refine ite2 (fun hc18 => ?_) (fun hc18 => ?_)
          · have hc18' := of_decide_eq_true hc18
            refine ⟨_, rfl, _, _, rfl, rfl, ⟨by decide, by decide, by decide⟩, _, _, rfl, rfl, _, rfl, p, _, rfl, dput (k := Sum.inr "digits") upd_same s5 put_digits, ?_⟩
            refine ⟨_, _, _, _, rfl, upd_same, by omega, by omega, hf0, hf1, fun b o nb e => ?_⟩
            rw [upd_ne nb, upd_ne nb, upd_ne nb]; exact e
          · refine ⟨_, rfl, p, _, rfl, dget (k := Sum.inr "fold") upd_same pen_fold, _, _, rfl, rfl, .inr ⟨by decide, by decide⟩, _, rfl, _, _, rfl, rfl, .inl ⟨_, rfl, _, _, rfl, rfl, (by show (2147483587 : Int) ≠ 0; decide), _, rfl, p, _, rfl, dput (k := Sum.inr "fold") upd_same s5 put_fold, ?_⟩⟩
            have hb := fmod_in (a := f * 69069 + ns[j]) (b := 2147483587) (by decide)
            refine ⟨_, _, _, _, rfl, upd_same, by omega, hd, hb.1, by omega, fun b o nb e => ?_⟩
            rw [upd_ne nb, upd_ne nb, upd_ne nb]; exact e
        · exact ⟨_, _, _, _, rfl, upd_same, hi, hd, hf0, hf1, Keep.upd⟩
      · exact iteF ⟨_, _, _, _, rfl, upd_same, hi, hd, hf0, hf1, Keep.upd⟩
    · rintro σ H1 ⟨i1, d1, f1, v, rfl, hp1, hi1, hd1, hf01, hf11, kp⟩
      have pen' : ∀ {H2 : Hp} {i2 d2 f2 : Int}, H2 p = some (.dK (penK c i2 d2 (n + 1) f2)) → 0 ≤ i2 → 0 ≤ d2 → 0 ≤ f2 → f2 < 2147483648 → Keep p H H2 → Pen H2 p c (m + 1) := fun {H2 i2 d2 f2} e a1 a2 a3 a4 kk =>
        ⟨ns, i2, d2, n + 1, f2, e, kk c _ hcp hc, a1, a2, by omega, by omega, a3, a4⟩
      refine ⟨_, rfl, p, _, rfl, dget (k := Sum.inr "digits") hp1 pen_digits, _, _, rfl, rfl, _, rfl, ?_⟩
      refine ite2 (fun hpos => ?_) (fun hpos => ?_)
      · have hpos' := of_decide_eq_true hpos
        refine ⟨_, rfl, p, _, rfl, dget (k := Sum.inr "digits") hp1 pen_digits, .inl ⟨_, rfl, _, rfl, _, _, rfl, rfl, by show k ≠ 0; omega, ?_⟩⟩
        refine ⟨_, rfl, p, _, rfl, dget (k := Sum.inr "digits") hp1 pen_digits, _, rfl, _, _, rfl, rfl, ⟨by show k ≠ 0; omega, by show k.natAbs < 1073741824; omega⟩, _, rfl, p, _, rfl, dput (k := Sum.inr "digits") hp1 s5 put_digits, _, rfl, ?_⟩
        have hb := fmod_in (a := d1) (b := k) hk0
        have kk : Keep p H (upd H1 p (.dK (penK c i1 (d1.fdiv k) (n + 1) f1))) := kp.trans Keep.upd
        exact q _ _ hb.1 hb.2 (pen' upd_same hi1 (fdiv_nn hd1 hk0) hf01 hf11 kk) kk
      · refine ⟨_, rfl, p, _, rfl, dget (k := Sum.inr "fold") hp1 pen_fold, _, rfl, p, _, rfl, dget (k := Sum.inr "count") hp1 pen_count, _, _, rfl, rfl, .inr ⟨by decide, by decide⟩, _, _, rfl, rfl, _, _, rfl, rfl, ?_⟩
        refine ⟨_, rfl, _, _, rfl, rfl, ⟨by decide, by decide, by show (f1 + (n + 1) * 7907 + 37).natAbs < 2 ^ 64; omega⟩, _, _, rfl, rfl, (by show (2305843009213693951 : Int) ≠ 0; decide), .inl ⟨_, rfl, _, _, rfl, rfl, ⟨by decide, by decide⟩, _, rfl, _, _, rfl, rfl, by show k ≠ 0; omega, ?_⟩⟩
        have hb := fmod_in (a := (((f1 + (n + 1) * 7907 + 37) ^ ((17 : Int)).toNat).fmod 2305843009213693951).fdiv 128) (b := k) hk0
        exact q _ _ hb.1 hb.2 (pen' hp1 hi1 hd1 hf01 hf11 kp) kp
abbrev st_law_pick : Stmt := top 24
theorem sc_law_pick : FnScope ["_law_pen_here", "_law_some"] ["_law_pen_here", "_law_some"] (defScope st_law_pick) := ⟨rfl, rfl, rfl, by decide +kernel, rfl, by decide +kernel, by decide +kernel⟩
theorem ok_law_pick (B : Blt mg)  {f_law_draw : Addr} {fd_law_draw : FuncData} (D_law_draw : DefAt K mg "_law_draw" st_law_draw ["_law_pen_here", "_law_many"] f_law_draw fd_law_draw) {f_law_pick : Addr} {fd_law_pick : FuncData} (D_law_pick : DefAt K mg "_law_pick" st_law_pick ["_law_pen_here", "_law_some"] f_law_pick fd_law_pick) : FnOk P w K mg base CX0 2 f_law_pick fd_law_pick ["_law_pen_here", "_law_some"] (spPick K) := by
  have OK_law_draw : FnOk P w K mg base CX0 1 f_law_draw fd_law_draw ["_law_pen_here", "_law_many"] spDraw := ok_law_draw B  D_law_draw
  refine D_law_pick.F.ok sc_law_pick (fun vs H Q E h => ?_) (fun cdv A outer s H vs Q E hr h => ?_)
  · obtain ⟨p, c, a, m, xs, rfl, _⟩ := h; rfl
  · have hu := hu_of hr
    refine ⟨_, (pss_one (ps_ret (pe_ix ix_list (pv 1) (pe_call OK_law_draw (hr.mono (by decide)) rfl D_law_draw.m D_law_draw.F.kp D_law_draw.b .nil pass0 (pa_cons (pv 0) (pa_cons (pe_callB call_len_seq (by rfl) B.len_ (by decide +kernel) (pa_cons (pv 1) pa_nil)) pa_nil))) (fun _ _ => rfl)))), ?_⟩
    obtain ⟨p, c, a, m, xs, rfl, P, hm, hS, hl0, hl1, q⟩ := h
    refine ⟨_, rfl, _, rfl, _, rfl, a, xs, rfl, .inl hS, p, c, m, _, rfl, P, hm, by omega, by omega, fun r H' h0 h1 P' kp => ?_⟩
    obtain ⟨j, rfl⟩ := Int.eq_ofNat_of_zero_le h0
    have hj : j < xs.length := by omega
    exact ⟨a, xs, _, xs[j], rfl, rfl, kp.seqL P hS, at_of rfl (List.getElem?_eq_getElem hj), q j _ H' (List.getElem?_eq_getElem hj) P' kp⟩
abbrev st_law_big : Stmt := top 25
theorem sc_law_big : FnScope ["_law_pen_here", "_law_figures", "_law_total", "_law_k"] ["_law_pen_here", "_law_figures"] (defScope st_law_big) := ⟨rfl, rfl, rfl, by decide +kernel, rfl, by decide +kernel, by decide +kernel⟩
theorem ok_law_big (B : Blt mg)  {f_law_draw : Addr} {fd_law_draw : FuncData} (D_law_draw : DefAt K mg "_law_draw" st_law_draw ["_law_pen_here", "_law_many"] f_law_draw fd_law_draw) {f_law_pick : Addr} {fd_law_pick : FuncData} (D_law_pick : DefAt K mg "_law_pick" st_law_pick ["_law_pen_here", "_law_some"] f_law_pick fd_law_pick) {f_law_big : Addr} {fd_law_big : FuncData} (D_law_big : DefAt K mg "_law_big" st_law_big ["_law_pen_here", "_law_figures"] f_law_big fd_law_big) : FnOk P w K mg base CX0 3 f_law_big fd_law_big ["_law_pen_here", "_law_figures"] spBig := by
  have OK_law_draw : FnOk P w K mg base CX0 1 f_law_draw fd_law_draw ["_law_pen_here", "_law_many"] spDraw := ok_law_draw B  D_law_draw
  have OK_law_pick : FnOk P w K mg base CX0 2 f_law_pick fd_law_pick ["_law_pen_here", "_law_some"] (spPick K) := ok_law_pick B  D_law_draw D_law_pick
  refine D_law_big.F.ok sc_law_big (fun vs H Q E h => ?_) (fun cdv A outer s H vs Q E hr h => ?_)
  · obtain ⟨p, c, m, k, rfl, _⟩ := h; rfl
  · have hu := hu_of hr
    refine ⟨_, (pss_cons (ps_set (i := 2) sc_law_big.nd rfl (Or.inl rfl) pe_int)
    (pss_cons (ps_for PassesOwn.never rfl (pi_range1 rfl B.range_ (pa_cons (pe_call OK_law_pick (hr.mono (by decide)) rfl D_law_pick.m D_law_pick.F.kp D_law_pick.b .nil pass0 (pa_cons (pv 0) (pa_cons (pe_lst (pa_cons pe_int (pa_cons pe_int (pa_cons pe_int (pa_cons pe_int (pa_cons pe_int (pa_cons (pe_op op_fdivN (pe_op op_add (pv 1) pe_int) pe_int) pa_nil))))))) pa_nil))) pa_nil)) (pg_name (i := 3) sc_law_big.nd rfl (Or.inl rfl))
      (pss_one (ps_set (i := 2) sc_law_big.nd rfl (Or.inl rfl) (pe_op op_add (pe_op op_mul (pv 2) pe_int) (pe_call OK_law_draw (hr.mono (by decide)) rfl D_law_draw.m D_law_draw.F.kp D_law_draw.b .nil pass0 (pa_cons (pv 0) (pa_cons pe_int pa_nil)))))))
    (pss_one (ps_ret (pe_callTy call_int_str (by rfl) B.int_ (by decide +kernel) (pa_cons (pe_slice sl_str (pe_callTy call_str_int (by rfl) B.str_ (by decide +kernel) (pa_cons (pv 2) pa_nil)) (po_some (pe_un un_neg (pv 1))) po_none) pa_nil)))))), ?_⟩
    obtain ⟨p, c, m, k, rfl, P, hm, hk0, hk1, q⟩ := h
    refine ⟨_, rfl, _, rfl, _, _, rfl, rfl, _, _, rfl, rfl, ⟨by decide, by decide⟩, (by show 6 ≤ sizeLine; decide), fun l hl => ?_⟩
    refine ⟨p, c, l, m, _, rfl, P.same (AL.Same.new hl), by omega, SqL.of upd_same, (by show 0 < 6; decide), (by show 6 < 1000000000; decide), fun j x H1 hx P1 k1 => ?_⟩
    have hx' : ∃ t : Nat, x = V.int (t : Int) ∧ t ≤ 134 := by
      refine pick_of (P := fun x => ∃ t : Nat, x = V.int (t : Int) ∧ t ≤ 134) (fun y hy => ?_) hx
      simp only [List.mem_cons, List.not_mem_nil, or_false] at hy
      rcases hy with rfl | rfl | rfl | rfl | rfl | rfl
      · exact ⟨1, rfl, by decide⟩
      · exact ⟨1, rfl, by decide⟩
      · exact ⟨1, rfl, by decide⟩
      · exact ⟨2, rfl, by decide⟩
      · exact ⟨3, rfl, by decide⟩
      · refine ⟨(k + 2) / 3, ?_, by omega⟩
        rw [Int.fdiv_eq_ediv_of_nonneg _ (by decide)]
        congr 1
    obtain ⟨t, rfl, ht⟩ := hx'
    have kk1 : Keep p H H1 := (Keep.new hl).trans k1
    refine ⟨_, rfl, by omega, by omega, for_range (lo := 0) (n := ((t : Int)).toNat) (fun i σ H' => ∃ (n : Nat) (v : Option V), σ = [some (.ref p), some (.int (k : Int)), some (.int (n : Int)), v] ∧ n < 1000 ^ i ∧ Pen H' p c (m + 1 + i) ∧ Keep p H H') ⟨0, none, rfl, by decide, P1, kk1⟩ ?_ ?_⟩
    · rintro i σ H' hi ⟨n, v, rfl, hn, P2, k2⟩
      have hi' : i < t := by omega
      refine ⟨_, rfl, _, _, rfl, rfl, .inr ⟨by decide, by decide⟩, _, rfl, p, c, m + 1 + i, _, rfl, P2, by omega, by decide, by decide, fun r H2 hr0 hr1 P3 k3 => ?_⟩
      obtain ⟨r, rfl⟩ := Int.eq_ofNat_of_zero_le hr0
      refine ⟨_, _, rfl, rfl, ⟨n * 1000 + r, some (.int (0 + (i : Int))), ?_, ?_, P3, k2.trans k3⟩⟩
      · rfl
      · rw [Nat.pow_succ]; omega
    · rintro σ H' ⟨n, v, rfl, hn, P2, k2⟩
      have hn' : n < 10 ^ 402 := by
        rw [thousand] at hn
        exact Nat.lt_of_lt_of_le hn (Nat.pow_le_pow_right (by decide) (by omega))
      have hl2 : (TL.numL n).length ≤ 402 := TL.numL_len (by decide) hn'
      have hld := last_digits (n := n) (k := k) hk0 (by omega)
      have hz : (Str.ofString (toString ((n : Nat) : Int))).length ≤ sizeLine := by
        rw [show (Str.ofString (toString ((n : Nat) : Int))).length = (TL.numL n).length by rw [TL.len_tl]; exact congrArg List.length (TL.tl_num n)]
        exact Nat.le_trans hl2 (by decide)
      refine ⟨_, rfl, _, rfl, log2_small (by decide) (Nat.lt_trans hn' pow402), _, rfl, _, rfl, _, rfl, _, rfl, hz, _, _, rfl, hld.2, hld.1, ?_⟩
      exact q _ _ (Nat.mod_lt _ (Nat.pow_pos (by decide))) (P2.mono (by omega)) k2
abbrev st_law_name : Stmt := top 26
theorem sc_law_name : FnScope ["_law_pen_here", "_law_used", "_law_signs", "_law_name_here", "_law_k"] ["_law_pen_here", "_law_used"] (defScope st_law_name) := ⟨rfl, rfl, rfl, by decide +kernel, rfl, by decide +kernel, by decide +kernel⟩
theorem ok_law_name (B : Blt mg)  {f_law_draw : Addr} {fd_law_draw : FuncData} (D_law_draw : DefAt K mg "_law_draw" st_law_draw ["_law_pen_here", "_law_many"] f_law_draw fd_law_draw) {f_law_pick : Addr} {fd_law_pick : FuncData} (D_law_pick : DefAt K mg "_law_pick" st_law_pick ["_law_pen_here", "_law_some"] f_law_pick fd_law_pick) {f_law_name : Addr} {fd_law_name : FuncData} (D_law_name : DefAt K mg "_law_name" st_law_name ["_law_pen_here", "_law_used"] f_law_name fd_law_name) : FnOk P w K mg base CX0 3 f_law_name fd_law_name ["_law_pen_here", "_law_used"] spName0 := by
  have OK_law_draw : FnOk P w K mg base CX0 1 f_law_draw fd_law_draw ["_law_pen_here", "_law_many"] spDraw := ok_law_draw B  D_law_draw
  have OK_law_pick : FnOk P w K mg base CX0 2 f_law_pick fd_law_pick ["_law_pen_here", "_law_some"] (spPick K) := ok_law_pick B  D_law_draw D_law_pick
  refine D_law_name.F.ok sc_law_name (fun vs H Q E h => ?_) (fun cdv A outer s H vs Q E hr h => ?_)
  · obtain ⟨p, c, a, m, rfl, _⟩ := h; rfl
  · have hu := hu_of hr
    refine ⟨_, (pss_cons (ps_set (i := 2) sc_law_name.nd rfl (Or.inl rfl) pe_str)
    (pss_cons (ps_set (i := 3) sc_law_name.nd rfl (Or.inl rfl) (pe_ix ix_str (pv 2) (pe_call OK_law_draw (hr.mono (by decide)) rfl D_law_draw.m D_law_draw.F.kp D_law_draw.b .nil pass0 (pa_cons (pv 0) (pa_cons pe_int pa_nil))) (fun _ _ => rfl)))
    (pss_cons (ps_for PassesOwn.never rfl (pi_range1 rfl B.range_ (pa_cons (pe_call OK_law_pick (hr.mono (by decide)) rfl D_law_pick.m D_law_pick.F.kp D_law_pick.b .nil pass0 (pa_cons (pv 0) (pa_cons (pe_lst (pa_cons pe_int (pa_cons pe_int (pa_cons pe_int (pa_cons pe_int (pa_cons pe_int (pa_cons pe_int pa_nil))))))) pa_nil))) pa_nil)) (pg_name (i := 4) sc_law_name.nd rfl (Or.inl rfl))
      (pss_one (ps_set (i := 3) sc_law_name.nd rfl (Or.inl rfl) (pe_op op_add_str (pv 3) (pe_ix ix_str (pv 2) (pe_call OK_law_draw (hr.mono (by decide)) rfl D_law_draw.m D_law_draw.F.kp D_law_draw.b .nil pass0 (pa_cons (pv 0) (pa_cons pe_int pa_nil))) (fun _ _ => rfl))))))
    (pss_cons (ps_for PassesOwn.never rfl (pi_range1 rfl B.range_ (pa_cons (pe_op op_add (pe_callB call_len_seq (by rfl) B.len_ (by decide +kernel) (pa_cons (pv 1) pa_nil)) pe_int) pa_nil)) (pg_name (i := 4) sc_law_name.nd rfl (Or.inl rfl))
      (pss_cons (ps_if (pt_cmpR op_notIn_seq (pv 3) (pv 1) rfl) (pss_one ps_break) pss_nil)
    (pss_one (ps_set (i := 3) sc_law_name.nd rfl (Or.inl rfl) (pe_op op_add_str (pe_slice sl_str (pv 3) po_none (po_some pe_int)) (pe_callTy call_str_int (by rfl) B.str_ (by decide +kernel) (pa_cons (pe_op op_add pe_int (pv 4)) pa_nil)))))))
    (pss_cons (ps_expr (pe_bm PySem.F.plainAttrs_list PySem.F.slot_list_append PySem.F.type_list_append mt_append (pv 1) (pa_cons (pv 3) pa_nil)))
    (pss_one (ps_ret (pv 3)))))))), ?_⟩
    obtain ⟨p, c, a, m, rfl, P, hac, hm, ha, q⟩ := h
    obtain ⟨kvs, hkp⟩ := P.dict
    have hap : a ≠ p := fun e => by rw [e, hkp] at ha; cases ha
    have sgn : ∀ {r : Int}, 0 ≤ r → r < 36 → ∃ cc, atI (("abcdefghijklmnopqrstuvwxyz0123456789" : Str)).cps.toList r = some cc ∧ cc < 128 := fun {r} h0 h1 => by
      obtain ⟨j, rfl⟩ := Int.eq_ofNat_of_zero_le h0
      have hl : (("abcdefghijklmnopqrstuvwxyz0123456789" : Str)).cps.toList.length = 36 := by decide +kernel
      have hj : j < (("abcdefghijklmnopqrstuvwxyz0123456789" : Str)).cps.toList.length := by omega
      have hall : ∀ c ∈ (("abcdefghijklmnopqrstuvwxyz0123456789" : Str)).cps.toList, c < 128 := by decide +kernel
      exact ⟨_, atI_nat (List.getElem?_eq_getElem hj), hall _ (List.getElem_mem hj)⟩
    refine ⟨_, rfl, _, rfl, p, c, m, _, rfl, P, by omega, by decide, by decide, fun r H1 h0 h1 P1 k1 => ?_⟩
    obtain ⟨cc, hcc, hc7⟩ := sgn h0 (by omega)
    refine ⟨_, _, _, rfl, rfl, (by show 36 ≤ sizeLine; decide), hcc, ?_⟩
    refine ⟨_, rfl, (by show 6 ≤ sizeLine; decide), fun l hl => ?_⟩
    refine ⟨p, c, l, m + 1, _, rfl, P1.same (AL.Same.new hl), by omega, SqL.of upd_same, (by show 0 < 6; decide), (by show 6 < 1000000000; decide), fun j x H2 hx P2 k2 => ?_⟩
    have hx' : ∃ t : Nat, x = V.int (t : Int) ∧ t ≤ 7 := by
      refine pick_of (P := fun x => ∃ t : Nat, x = V.int (t : Int) ∧ t ≤ 7) (fun y hy => ?_) hx
      simp only [List.mem_cons, List.not_mem_nil, or_false] at hy
      rcases hy with rfl | rfl | rfl | rfl | rfl | rfl
      · exact ⟨0, rfl, by decide⟩
      · exact ⟨0, rfl, by decide⟩
      · exact ⟨1, rfl, by decide⟩
      · exact ⟨2, rfl, by decide⟩
      · exact ⟨4, rfl, by decide⟩
      · exact ⟨7, rfl, by decide⟩
    obtain ⟨t, rfl, ht⟩ := hx'
    have kk2 : Keep p H H2 := k1.trans ((Keep.new hl).trans k2)
    refine ⟨_, rfl, by omega, by omega, for_range (lo := 0) (n := ((t : Int)).toNat) (fun i σ H' => ∃ (z : Str) (v : Option V), σ = [some (.ref p), some (.ref a), some (.str "abcdefghijklmnopqrstuvwxyz0123456789"), some (.str z), v] ∧ z.length = i + 1 ∧ (∀ c ∈ z.cps.toList, c < 128) ∧ Pen H' p c (m + 2 + i) ∧ Keep p H H') ⟨_, none, rfl, rfl, (fun c hc => by rw [List.mem_singleton.mp hc]; exact hc7), P2, kk2⟩ ?_ ?_⟩
    · rintro i σ H' hi ⟨z, v, rfl, hz, hz7, P3, k3⟩
      have hi' : i < t := by omega
      refine ⟨_, rfl, _, rfl, _, rfl, p, c, m + 2 + i, _, rfl, P3, by omega, by decide, by decide, fun r2 H3 hr0 hr1 P4 k4 => ?_⟩
      obtain ⟨cc2, hcc2, hd7⟩ := sgn hr0 hr1
      refine ⟨_, _, _, rfl, rfl, (by show 36 ≤ sizeLine; decide), hcc2, _, _, rfl, rfl, ?_, _, some (.int (0 + (i : Int))), rfl, ?_, ?_, P4, k3.trans k4⟩
      · rw [hz]
        show i + 1 + 1 ≤ sizeLine
        exact Nat.le_trans (by omega : i + 1 + 1 ≤ 100) (by decide)
      · rw [Str.length_append, hz]
        rfl
      · intro c hc
        have hc' : c ∈ z.cps.toList ++ [cc2] := by rw [← app_tl]; exact hc
        rcases List.mem_append.mp hc' with h | h
        · exact hz7 c h
        · rw [List.mem_singleton.mp h]; exact hd7
    · rintro σ H' ⟨z, v, rfl, hz, hz7, P3, k3⟩
      have ha3 : H' a = some (.lst []) := k3 a _ hap ha
      refine ⟨_, rfl, a, _, rfl, .inl (SqL.of ha3), _, _, rfl, rfl, _, rfl, (by show -(2 ^ 62) ≤ ((([] : List V).length : Nat) : Int) + 1; decide), (by show ((([] : List V).length : Nat) : Int) + 1 < 2 ^ 62; decide), for_range (lo := 0) (n := 1) (fun i σ H2 => i = 0 ∧ H2 = H' ∧ ∃ v, σ = [some (.ref p), some (.ref a), some (.str "abcdefghijklmnopqrstuvwxyz0123456789"), some (.str z), v]) ⟨rfl, rfl, v, rfl⟩ ?_ ?_⟩
      · rintro i σ H2 hi ⟨rfl, rfl, v2, rfl⟩
        refine ⟨_, rfl, _, rfl, a, [], rfl, .inl (SqL.of ha3), rfl, rfl, _, rfl, ?_⟩
        refine iteT ?_
        refine ⟨_, rfl, .inl ⟨rfl, _, SqL.of ha3⟩, _, rfl, a, _, _, rfl, rfl, ha3, (by show 0 < sizeLine; decide), _, rfl, ?_⟩
        refine q z _ (by omega) hz7 ?_ ?_
        · refine (P3.mono (by omega : m + 2 + ((t : Int)).toNat ≤ m + 200)).keep (fun o e => ?_) fun o e => ?_
          · rw [upd_ne hap.symm]; exact e
          · rw [upd_ne hac.symm]; exact e
        · intro b o nb e
          by_cases hb : b = a
          · subst hb
            rw [upd_same] at e ⊢
            exact e
          · rw [upd_ne hb] at e ⊢
            exact k3 b o nb e
      · rintro σ H2 ⟨z, _⟩
        cases z
end
end AL
set_option Elab.async false
set_option maxRecDepth 100000
namespace AL
open PySem L2
section
variable {P : Program} {w : World} {K : PySem.W.Frag} {mg : Str → Option Value} {base : Heap}
abbrev si_BadName : Stmt := inClass (top 4) 0
theorem sci_BadName : FnScope ["self", "name"] ["self", "name"] (defScope si_BadName) := ⟨rfl, rfl, rfl, by decide +kernel, rfl, by decide +kernel, by decide +kernel⟩
theorem oki_BadName {C fI : Addr} {fd : FuncData} (T : ErrT K mg "BadName" C ["name"]) (I : IniT K "BadName.__init__" si_BadName ["self", "name"] C fI fd) : FnOk P w K mg base CX0 1 fI fd ["self", "name"] (spIni C ["name"]) := by
  refine I.F.ok sci_BadName (fun vs H Q E h => ?_) (fun cdv A outer s H vs Q E hr h => ?_)
  · obtain ⟨a, ys, rfl, hl, _⟩ := h; exact congrArg Nat.succ hl
  · obtain ⟨a, ys, rfl, hl, ha, q⟩ := h
    match ys, hl with
    | [y1], _ =>
    refine ⟨_, (pss_one (ps_ost (pv 0) (pv 1))), ?_⟩
    refine ⟨_, rfl, _, rfl, a, C, rfl, T.oex, T.no _ (List.mem_singleton.mpr rfl), .inl ⟨ha, fun dx hd hne => ?_⟩⟩
    exact q dx _ hd hne upd_same (Eq.trans (upd_ne hne) upd_same) fun b h1 h2 => Eq.trans (upd_ne h1) (upd_ne h2)
abbrev si_BadMatrix : Stmt := inClass (top 5) 0
theorem sci_BadMatrix : FnScope ["self", "what"] ["self", "what"] (defScope si_BadMatrix) := ⟨rfl, rfl, rfl, by decide +kernel, rfl, by decide +kernel, by decide +kernel⟩
theorem oki_BadMatrix {C fI : Addr} {fd : FuncData} (T : ErrT K mg "BadMatrix" C ["what"]) (I : IniT K "BadMatrix.__init__" si_BadMatrix ["self", "what"] C fI fd) : FnOk P w K mg base CX0 1 fI fd ["self", "what"] (spIni C ["what"]) := by
  refine I.F.ok sci_BadMatrix (fun vs H Q E h => ?_) (fun cdv A outer s H vs Q E hr h => ?_)
  · obtain ⟨a, ys, rfl, hl, _⟩ := h; exact congrArg Nat.succ hl
  · obtain ⟨a, ys, rfl, hl, ha, q⟩ := h
    match ys, hl with
    | [y1], _ =>
    refine ⟨_, (pss_one (ps_ost (pv 0) (pv 1))), ?_⟩
    refine ⟨_, rfl, _, rfl, a, C, rfl, T.oex, T.no _ (List.mem_singleton.mpr rfl), .inl ⟨ha, fun dx hd hne => ?_⟩⟩
    exact q dx _ hd hne upd_same (Eq.trans (upd_ne hne) upd_same) fun b h1 h2 => Eq.trans (upd_ne h1) (upd_ne h2)
abbrev si_ByZero : Stmt := inClass (top 7) 0
theorem sci_ByZero : FnScope ["self", "place"] ["self", "place"] (defScope si_ByZero) := ⟨rfl, rfl, rfl, by decide +kernel, rfl, by decide +kernel, by decide +kernel⟩
theorem oki_ByZero {C fI : Addr} {fd : FuncData} (T : ErrT K mg "ByZero" C ["place"]) (I : IniT K "ByZero.__init__" si_ByZero ["self", "place"] C fI fd) : FnOk P w K mg base CX0 1 fI fd ["self", "place"] (spIni C ["place"]) := by
  refine I.F.ok sci_ByZero (fun vs H Q E h => ?_) (fun cdv A outer s H vs Q E hr h => ?_)
  · obtain ⟨a, ys, rfl, hl, _⟩ := h; exact congrArg Nat.succ hl
  · obtain ⟨a, ys, rfl, hl, ha, q⟩ := h
    match ys, hl with
    | [y1], _ =>
    refine ⟨_, (pss_one (ps_ost (pv 0) (pv 1))), ?_⟩
    refine ⟨_, rfl, _, rfl, a, C, rfl, T.oex, T.no _ (List.mem_singleton.mpr rfl), .inl ⟨ha, fun dx hd hne => ?_⟩⟩
    exact q dx _ hd hne upd_same (Eq.trans (upd_ne hne) upd_same) fun b h1 h2 => Eq.trans (upd_ne h1) (upd_ne h2)
abbrev si_NotPower : Stmt := inClass (top 8) 0
theorem sci_NotPower : FnScope ["self", "place"] ["self", "place"] (defScope si_NotPower) := ⟨rfl, rfl, rfl, by decide +kernel, rfl, by decide +kernel, by decide +kernel⟩
theorem oki_NotPower {C fI : Addr} {fd : FuncData} (T : ErrT K mg "NotPower" C ["place"]) (I : IniT K "NotPower.__init__" si_NotPower ["self", "place"] C fI fd) : FnOk P w K mg base CX0 1 fI fd ["self", "place"] (spIni C ["place"]) := by
  refine I.F.ok sci_NotPower (fun vs H Q E h => ?_) (fun cdv A outer s H vs Q E hr h => ?_)
  · obtain ⟨a, ys, rfl, hl, _⟩ := h; exact congrArg Nat.succ hl
  · obtain ⟨a, ys, rfl, hl, ha, q⟩ := h
    match ys, hl with
    | [y1], _ =>
    refine ⟨_, (pss_one (ps_ost (pv 0) (pv 1))), ?_⟩
    refine ⟨_, rfl, _, rfl, a, C, rfl, T.oex, T.no _ (List.mem_singleton.mpr rfl), .inl ⟨ha, fun dx hd hne => ?_⟩⟩
    exact q dx _ hd hne upd_same (Eq.trans (upd_ne hne) upd_same) fun b h1 h2 => Eq.trans (upd_ne h1) (upd_ne h2)
abbrev si_HasIf : Stmt := inClass (top 9) 0
theorem sci_HasIf : FnScope ["self", "name"] ["self", "name"] (defScope si_HasIf) := ⟨rfl, rfl, rfl, by decide +kernel, rfl, by decide +kernel, by decide +kernel⟩
theorem oki_HasIf {C fI : Addr} {fd : FuncData} (T : ErrT K mg "HasIf" C ["name"]) (I : IniT K "HasIf.__init__" si_HasIf ["self", "name"] C fI fd) : FnOk P w K mg base CX0 1 fI fd ["self", "name"] (spIni C ["name"]) := by
  refine I.F.ok sci_HasIf (fun vs H Q E h => ?_) (fun cdv A outer s H vs Q E hr h => ?_)
  · obtain ⟨a, ys, rfl, hl, _⟩ := h; exact congrArg Nat.succ hl
  · obtain ⟨a, ys, rfl, hl, ha, q⟩ := h
    match ys, hl with
    | [y1], _ =>
    refine ⟨_, (pss_one (ps_ost (pv 0) (pv 1))), ?_⟩
    refine ⟨_, rfl, _, rfl, a, C, rfl, T.oex, T.no _ (List.mem_singleton.mpr rfl), .inl ⟨ha, fun dx hd hne => ?_⟩⟩
    exact q dx _ hd hne upd_same (Eq.trans (upd_ne hne) upd_same) fun b h1 h2 => Eq.trans (upd_ne h1) (upd_ne h2)
abbrev si_NoUnit : Stmt := inClass (top 10) 0
theorem sci_NoUnit : FnScope ["self", "name"] ["self", "name"] (defScope si_NoUnit) := ⟨rfl, rfl, rfl, by decide +kernel, rfl, by decide +kernel, by decide +kernel⟩
theorem oki_NoUnit {C fI : Addr} {fd : FuncData} (T : ErrT K mg "NoUnit" C ["name"]) (I : IniT K "NoUnit.__init__" si_NoUnit ["self", "name"] C fI fd) : FnOk P w K mg base CX0 1 fI fd ["self", "name"] (spIni C ["name"]) := by
  refine I.F.ok sci_NoUnit (fun vs H Q E h => ?_) (fun cdv A outer s H vs Q E hr h => ?_)
  · obtain ⟨a, ys, rfl, hl, _⟩ := h; exact congrArg Nat.succ hl
  · obtain ⟨a, ys, rfl, hl, ha, q⟩ := h
    match ys, hl with
    | [y1], _ =>
    refine ⟨_, (pss_one (ps_ost (pv 0) (pv 1))), ?_⟩
    refine ⟨_, rfl, _, rfl, a, C, rfl, T.oex, T.no _ (List.mem_singleton.mpr rfl), .inl ⟨ha, fun dx hd hne => ?_⟩⟩
    exact q dx _ hd hne upd_same (Eq.trans (upd_ne hne) upd_same) fun b h1 h2 => Eq.trans (upd_ne h1) (upd_ne h2)
abbrev si_NoName : Stmt := inClass (top 11) 0
theorem sci_NoName : FnScope ["self", "name"] ["self", "name"] (defScope si_NoName) := ⟨rfl, rfl, rfl, by decide +kernel, rfl, by decide +kernel, by decide +kernel⟩
theorem oki_NoName {C fI : Addr} {fd : FuncData} (T : ErrT K mg "NoName" C ["name"]) (I : IniT K "NoName.__init__" si_NoName ["self", "name"] C fI fd) : FnOk P w K mg base CX0 1 fI fd ["self", "name"] (spIni C ["name"]) := by
  refine I.F.ok sci_NoName (fun vs H Q E h => ?_) (fun cdv A outer s H vs Q E hr h => ?_)
  · obtain ⟨a, ys, rfl, hl, _⟩ := h; exact congrArg Nat.succ hl
  · obtain ⟨a, ys, rfl, hl, ha, q⟩ := h
    match ys, hl with
    | [y1], _ =>
    refine ⟨_, (pss_one (ps_ost (pv 0) (pv 1))), ?_⟩
    refine ⟨_, rfl, _, rfl, a, C, rfl, T.oex, T.no _ (List.mem_singleton.mpr rfl), .inl ⟨ha, fun dx hd hne => ?_⟩⟩
    exact q dx _ hd hne upd_same (Eq.trans (upd_ne hne) upd_same) fun b h1 h2 => Eq.trans (upd_ne h1) (upd_ne h2)
abbrev si_TakenName : Stmt := inClass (top 12) 0
theorem sci_TakenName : FnScope ["self", "name"] ["self", "name"] (defScope si_TakenName) := ⟨rfl, rfl, rfl, by decide +kernel, rfl, by decide +kernel, by decide +kernel⟩
theorem oki_TakenName {C fI : Addr} {fd : FuncData} (T : ErrT K mg "TakenName" C ["name"]) (I : IniT K "TakenName.__init__" si_TakenName ["self", "name"] C fI fd) : FnOk P w K mg base CX0 1 fI fd ["self", "name"] (spIni C ["name"]) := by
  refine I.F.ok sci_TakenName (fun vs H Q E h => ?_) (fun cdv A outer s H vs Q E hr h => ?_)
  · obtain ⟨a, ys, rfl, hl, _⟩ := h; exact congrArg Nat.succ hl
  · obtain ⟨a, ys, rfl, hl, ha, q⟩ := h
    match ys, hl with
    | [y1], _ =>
    refine ⟨_, (pss_one (ps_ost (pv 0) (pv 1))), ?_⟩
    refine ⟨_, rfl, _, rfl, a, C, rfl, T.oex, T.no _ (List.mem_singleton.mpr rfl), .inl ⟨ha, fun dx hd hne => ?_⟩⟩
    exact q dx _ hd hne upd_same (Eq.trans (upd_ne hne) upd_same) fun b h1 h2 => Eq.trans (upd_ne h1) (upd_ne h2)
abbrev si_TooDeep : Stmt := inClass (top 13) 0
theorem sci_TooDeep : FnScope ["self", "limit"] ["self", "limit"] (defScope si_TooDeep) := ⟨rfl, rfl, rfl, by decide +kernel, rfl, by decide +kernel, by decide +kernel⟩
theorem oki_TooDeep {C fI : Addr} {fd : FuncData} (T : ErrT K mg "TooDeep" C ["limit"]) (I : IniT K "TooDeep.__init__" si_TooDeep ["self", "limit"] C fI fd) : FnOk P w K mg base CX0 1 fI fd ["self", "limit"] (spIni C ["limit"]) := by
  refine I.F.ok sci_TooDeep (fun vs H Q E h => ?_) (fun cdv A outer s H vs Q E hr h => ?_)
  · obtain ⟨a, ys, rfl, hl, _⟩ := h; exact congrArg Nat.succ hl
  · obtain ⟨a, ys, rfl, hl, ha, q⟩ := h
    match ys, hl with
    | [y1], _ =>
    refine ⟨_, (pss_one (ps_ost (pv 0) (pv 1))), ?_⟩
    refine ⟨_, rfl, _, rfl, a, C, rfl, T.oex, T.no _ (List.mem_singleton.mpr rfl), .inl ⟨ha, fun dx hd hne => ?_⟩⟩
    exact q dx _ hd hne upd_same (Eq.trans (upd_ne hne) upd_same) fun b h1 h2 => Eq.trans (upd_ne h1) (upd_ne h2)
abbrev si_NotWhole : Stmt := inClass (top 16) 0
theorem sci_NotWhole : FnScope ["self", "what"] ["self", "what"] (defScope si_NotWhole) := ⟨rfl, rfl, rfl, by decide +kernel, rfl, by decide +kernel, by decide +kernel⟩
theorem oki_NotWhole {C fI : Addr} {fd : FuncData} (T : ErrT K mg "NotWhole" C ["what"]) (I : IniT K "NotWhole.__init__" si_NotWhole ["self", "what"] C fI fd) : FnOk P w K mg base CX0 1 fI fd ["self", "what"] (spIni C ["what"]) := by
  refine I.F.ok sci_NotWhole (fun vs H Q E h => ?_) (fun cdv A outer s H vs Q E hr h => ?_)
  · obtain ⟨a, ys, rfl, hl, _⟩ := h; exact congrArg Nat.succ hl
  · obtain ⟨a, ys, rfl, hl, ha, q⟩ := h
    match ys, hl with
    | [y1], _ =>
    refine ⟨_, (pss_one (ps_ost (pv 0) (pv 1))), ?_⟩
    refine ⟨_, rfl, _, rfl, a, C, rfl, T.oex, T.no _ (List.mem_singleton.mpr rfl), .inl ⟨ha, fun dx hd hne => ?_⟩⟩
    exact q dx _ hd hne upd_same (Eq.trans (upd_ne hne) upd_same) fun b h1 h2 => Eq.trans (upd_ne h1) (upd_ne h2)
abbrev si_BadText : Stmt := inClass (top 2) 0
theorem sci_BadText : FnScope ["self", "line", "column"] ["self", "line", "column"] (defScope si_BadText) := ⟨rfl, rfl, rfl, by decide +kernel, rfl, by decide +kernel, by decide +kernel⟩
theorem oki_BadText {C fI : Addr} {fd : FuncData} (T : ErrT K mg "BadText" C ["line", "column"]) (I : IniT K "BadText.__init__" si_BadText ["self", "line", "column"] C fI fd) : FnOk P w K mg base CX0 1 fI fd ["self", "line", "column"] (spIni C ["line", "column"]) := by
  refine I.F.ok sci_BadText (fun vs H Q E h => ?_) (fun cdv A outer s H vs Q E hr h => ?_)
  · obtain ⟨a, ys, rfl, hl, _⟩ := h; exact congrArg Nat.succ hl
  · obtain ⟨a, ys, rfl, hl, ha, q⟩ := h
    match ys, hl with
    | [y1, y2], _ =>
    refine ⟨_, (pss_cons (ps_ost (pv 0) (pv 1)) (pss_one (ps_ost (pv 0) (pv 2)))), ?_⟩
    refine ⟨_, rfl, _, rfl, a, C, rfl, T.oex, T.no _ (by simp), .inl ⟨ha, fun dx hd hne => ?_⟩⟩
    have e0 : upd (upd H dx (exd dx [("line", y1)])) a (exo a C (some dx)) a = some (exo a C (some dx)) := upd_same
    have d0 : upd (upd H dx (exd dx [("line", y1)])) a (exo a C (some dx)) dx = some (exd dx [("line", y1)]) := Eq.trans (upd_ne hne) upd_same
    refine ⟨_, rfl, _, rfl, a, C, rfl, T.oex, T.no _ (by simp), .inr ⟨dx, _, e0, d0, (by show 1 ≤ 900; decide), ?_⟩⟩
    exact q dx _ hd hne (Eq.trans (upd_ne hne.symm) e0) upd_same fun b h1 h2 => Eq.trans (upd_ne h2) (Eq.trans (upd_ne h1) (upd_ne h2))
abbrev si_BadNumber : Stmt := inClass (top 3) 0
theorem sci_BadNumber : FnScope ["self", "what", "number"] ["self", "what", "number"] (defScope si_BadNumber) := ⟨rfl, rfl, rfl, by decide +kernel, rfl, by decide +kernel, by decide +kernel⟩
theorem oki_BadNumber {C fI : Addr} {fd : FuncData} (T : ErrT K mg "BadNumber" C ["what", "number"]) (I : IniT K "BadNumber.__init__" si_BadNumber ["self", "what", "number"] C fI fd) : FnOk P w K mg base CX0 1 fI fd ["self", "what", "number"] (spIni C ["what", "number"]) := by
  refine I.F.ok sci_BadNumber (fun vs H Q E h => ?_) (fun cdv A outer s H vs Q E hr h => ?_)
  · obtain ⟨a, ys, rfl, hl, _⟩ := h; exact congrArg Nat.succ hl
  · obtain ⟨a, ys, rfl, hl, ha, q⟩ := h
    match ys, hl with
    | [y1, y2], _ =>
    refine ⟨_, (pss_cons (ps_ost (pv 0) (pv 1)) (pss_one (ps_ost (pv 0) (pv 2)))), ?_⟩
    refine ⟨_, rfl, _, rfl, a, C, rfl, T.oex, T.no _ (by simp), .inl ⟨ha, fun dx hd hne => ?_⟩⟩
    have e0 : upd (upd H dx (exd dx [("what", y1)])) a (exo a C (some dx)) a = some (exo a C (some dx)) := upd_same
    have d0 : upd (upd H dx (exd dx [("what", y1)])) a (exo a C (some dx)) dx = some (exd dx [("what", y1)]) := Eq.trans (upd_ne hne) upd_same
    refine ⟨_, rfl, _, rfl, a, C, rfl, T.oex, T.no _ (by simp), .inr ⟨dx, _, e0, d0, (by show 1 ≤ 900; decide), ?_⟩⟩
    exact q dx _ hd hne (Eq.trans (upd_ne hne.symm) e0) upd_same fun b h1 h2 => Eq.trans (upd_ne h2) (Eq.trans (upd_ne h1) (upd_ne h2))
abbrev si_Contradicted : Stmt := inClass (top 17) 0
theorem sci_Contradicted : FnScope ["self", "first", "second"] ["self", "first", "second"] (defScope si_Contradicted) := ⟨rfl, rfl, rfl, by decide +kernel, rfl, by decide +kernel, by decide +kernel⟩
theorem oki_Contradicted {C fI : Addr} {fd : FuncData} (T : ErrT K mg "Contradicted" C ["first", "second"]) (I : IniT K "Contradicted.__init__" si_Contradicted ["self", "first", "second"] C fI fd) : FnOk P w K mg base CX0 1 fI fd ["self", "first", "second"] (spIni C ["first", "second"]) := by
  refine I.F.ok sci_Contradicted (fun vs H Q E h => ?_) (fun cdv A outer s H vs Q E hr h => ?_)
  · obtain ⟨a, ys, rfl, hl, _⟩ := h; exact congrArg Nat.succ hl
  · obtain ⟨a, ys, rfl, hl, ha, q⟩ := h
    match ys, hl with
    | [y1, y2], _ =>
    refine ⟨_, (pss_cons (ps_ost (pv 0) (pv 1)) (pss_one (ps_ost (pv 0) (pv 2)))), ?_⟩
    refine ⟨_, rfl, _, rfl, a, C, rfl, T.oex, T.no _ (by simp), .inl ⟨ha, fun dx hd hne => ?_⟩⟩
    have e0 : upd (upd H dx (exd dx [("first", y1)])) a (exo a C (some dx)) a = some (exo a C (some dx)) := upd_same
    have d0 : upd (upd H dx (exd dx [("first", y1)])) a (exo a C (some dx)) dx = some (exd dx [("first", y1)]) := Eq.trans (upd_ne hne) upd_same
    refine ⟨_, rfl, _, rfl, a, C, rfl, T.oex, T.no _ (by simp), .inr ⟨dx, _, e0, d0, (by show 1 ≤ 900; decide), ?_⟩⟩
    exact q dx _ hd hne (Eq.trans (upd_ne hne.symm) e0) upd_same fun b h1 h2 => Eq.trans (upd_ne h2) (Eq.trans (upd_ne h1) (upd_ne h2))
abbrev si_NotKept : Stmt := inClass (top 18) 0
theorem sci_NotKept : FnScope ["self", "promise", "witness"] ["self", "promise", "witness"] (defScope si_NotKept) := ⟨rfl, rfl, rfl, by decide +kernel, rfl, by decide +kernel, by decide +kernel⟩
theorem oki_NotKept {C fI : Addr} {fd : FuncData} (T : ErrT K mg "NotKept" C ["promise", "witness"]) (I : IniT K "NotKept.__init__" si_NotKept ["self", "promise", "witness"] C fI fd) : FnOk P w K mg base CX0 1 fI fd ["self", "promise", "witness"] (spIni C ["promise", "witness"]) := by
  refine I.F.ok sci_NotKept (fun vs H Q E h => ?_) (fun cdv A outer s H vs Q E hr h => ?_)
  · obtain ⟨a, ys, rfl, hl, _⟩ := h; exact congrArg Nat.succ hl
  · obtain ⟨a, ys, rfl, hl, ha, q⟩ := h
    match ys, hl with
    | [y1, y2], _ =>
    refine ⟨_, (pss_cons (ps_ost (pv 0) (pv 1)) (pss_one (ps_ost (pv 0) (pv 2)))), ?_⟩
    refine ⟨_, rfl, _, rfl, a, C, rfl, T.oex, T.no _ (by simp), .inl ⟨ha, fun dx hd hne => ?_⟩⟩
    have e0 : upd (upd H dx (exd dx [("promise", y1)])) a (exo a C (some dx)) a = some (exo a C (some dx)) := upd_same
    have d0 : upd (upd H dx (exd dx [("promise", y1)])) a (exo a C (some dx)) dx = some (exd dx [("promise", y1)]) := Eq.trans (upd_ne hne) upd_same
    refine ⟨_, rfl, _, rfl, a, C, rfl, T.oex, T.no _ (by simp), .inr ⟨dx, _, e0, d0, (by show 1 ≤ 900; decide), ?_⟩⟩
    exact q dx _ hd hne (Eq.trans (upd_ne hne.symm) e0) upd_same fun b h1 h2 => Eq.trans (upd_ne h2) (Eq.trans (upd_ne h1) (upd_ne h2))
abbrev si_Unlike : Stmt := inClass (top 6) 0
theorem sci_Unlike : FnScope ["self", "place", "one", "other"] ["self", "place", "one", "other"] (defScope si_Unlike) := ⟨rfl, rfl, rfl, by decide +kernel, rfl, by decide +kernel, by decide +kernel⟩
theorem oki_Unlike {C fI : Addr} {fd : FuncData} (T : ErrT K mg "Unlike" C ["place", "one", "other"]) (I : IniT K "Unlike.__init__" si_Unlike ["self", "place", "one", "other"] C fI fd) : FnOk P w K mg base CX0 1 fI fd ["self", "place", "one", "other"] (spIni C ["place", "one", "other"]) := by
  refine I.F.ok sci_Unlike (fun vs H Q E h => ?_) (fun cdv A outer s H vs Q E hr h => ?_)
  · obtain ⟨a, ys, rfl, hl, _⟩ := h; exact congrArg Nat.succ hl
  · obtain ⟨a, ys, rfl, hl, ha, q⟩ := h
    match ys, hl with
    | [y1, y2, y3], _ =>
    refine ⟨_, (pss_cons (ps_ost (pv 0) (pv 1)) (pss_cons (ps_ost (pv 0) (pv 2)) (pss_one (ps_ost (pv 0) (pv 3))))), ?_⟩
    refine ⟨_, rfl, _, rfl, a, C, rfl, T.oex, T.no _ (by simp), .inl ⟨ha, fun dx hd hne => ?_⟩⟩
    have e0 : upd (upd H dx (exd dx [("place", y1)])) a (exo a C (some dx)) a = some (exo a C (some dx)) := upd_same
    have d0 : upd (upd H dx (exd dx [("place", y1)])) a (exo a C (some dx)) dx = some (exd dx [("place", y1)]) := Eq.trans (upd_ne hne) upd_same
    refine ⟨_, rfl, _, rfl, a, C, rfl, T.oex, T.no _ (by simp), .inr ⟨dx, _, e0, d0, (by show 1 ≤ 900; decide), ?_⟩⟩
    refine ⟨_, rfl, _, rfl, a, C, rfl, T.oex, T.no _ (by simp), .inr ⟨dx, _, Eq.trans (upd_ne hne.symm) e0, upd_same, (by show 2 ≤ 900; decide), ?_⟩⟩
    exact q dx _ hd hne (Eq.trans (upd_ne hne.symm) (Eq.trans (upd_ne hne.symm) e0)) upd_same fun b h1 h2 => Eq.trans (upd_ne h2) (Eq.trans (upd_ne h2) (Eq.trans (upd_ne h1) (upd_ne h2)))
abbrev si_TooMany : Stmt := inClass (top 14) 0
theorem sci_TooMany : FnScope ["self", "what", "many", "limit"] ["self", "what", "many", "limit"] (defScope si_TooMany) := ⟨rfl, rfl, rfl, by decide +kernel, rfl, by decide +kernel, by decide +kernel⟩
theorem oki_TooMany {C fI : Addr} {fd : FuncData} (T : ErrT K mg "TooMany" C ["what", "many", "limit"]) (I : IniT K "TooMany.__init__" si_TooMany ["self", "what", "many", "limit"] C fI fd) : FnOk P w K mg base CX0 1 fI fd ["self", "what", "many", "limit"] (spIni C ["what", "many", "limit"]) := by
  refine I.F.ok sci_TooMany (fun vs H Q E h => ?_) (fun cdv A outer s H vs Q E hr h => ?_)
  · obtain ⟨a, ys, rfl, hl, _⟩ := h; exact congrArg Nat.succ hl
  · obtain ⟨a, ys, rfl, hl, ha, q⟩ := h
    match ys, hl with
    | [y1, y2, y3], _ =>
    refine ⟨_, (pss_cons (ps_ost (pv 0) (pv 1)) (pss_cons (ps_ost (pv 0) (pv 2)) (pss_one (ps_ost (pv 0) (pv 3))))), ?_⟩
    refine ⟨_, rfl, _, rfl, a, C, rfl, T.oex, T.no _ (by simp), .inl ⟨ha, fun dx hd hne => ?_⟩⟩
    have e0 : upd (upd H dx (exd dx [("what", y1)])) a (exo a C (some dx)) a = some (exo a C (some dx)) := upd_same
    have d0 : upd (upd H dx (exd dx [("what", y1)])) a (exo a C (some dx)) dx = some (exd dx [("what", y1)]) := Eq.trans (upd_ne hne) upd_same
    refine ⟨_, rfl, _, rfl, a, C, rfl, T.oex, T.no _ (by simp), .inr ⟨dx, _, e0, d0, (by show 1 ≤ 900; decide), ?_⟩⟩
    refine ⟨_, rfl, _, rfl, a, C, rfl, T.oex, T.no _ (by simp), .inr ⟨dx, _, Eq.trans (upd_ne hne.symm) e0, upd_same, (by show 2 ≤ 900; decide), ?_⟩⟩
    exact q dx _ hd hne (Eq.trans (upd_ne hne.symm) (Eq.trans (upd_ne hne.symm) e0)) upd_same fun b h1 h2 => Eq.trans (upd_ne h2) (Eq.trans (upd_ne h2) (Eq.trans (upd_ne h1) (upd_ne h2)))
abbrev si_TooLarge : Stmt := inClass (top 15) 0
theorem sci_TooLarge : FnScope ["self", "what", "number", "limit"] ["self", "what", "number", "limit"] (defScope si_TooLarge) := ⟨rfl, rfl, rfl, by decide +kernel, rfl, by decide +kernel, by decide +kernel⟩
theorem oki_TooLarge {C fI : Addr} {fd : FuncData} (T : ErrT K mg "TooLarge" C ["what", "number", "limit"]) (I : IniT K "TooLarge.__init__" si_TooLarge ["self", "what", "number", "limit"] C fI fd) : FnOk P w K mg base CX0 1 fI fd ["self", "what", "number", "limit"] (spIni C ["what", "number", "limit"]) := by
  refine I.F.ok sci_TooLarge (fun vs H Q E h => ?_) (fun cdv A outer s H vs Q E hr h => ?_)
  · obtain ⟨a, ys, rfl, hl, _⟩ := h; exact congrArg Nat.succ hl
  · obtain ⟨a, ys, rfl, hl, ha, q⟩ := h
    match ys, hl with
    | [y1, y2, y3], _ =>
    refine ⟨_, (pss_cons (ps_ost (pv 0) (pv 1)) (pss_cons (ps_ost (pv 0) (pv 2)) (pss_one (ps_ost (pv 0) (pv 3))))), ?_⟩
    refine ⟨_, rfl, _, rfl, a, C, rfl, T.oex, T.no _ (by simp), .inl ⟨ha, fun dx hd hne => ?_⟩⟩
    have e0 : upd (upd H dx (exd dx [("what", y1)])) a (exo a C (some dx)) a = some (exo a C (some dx)) := upd_same
    have d0 : upd (upd H dx (exd dx [("what", y1)])) a (exo a C (some dx)) dx = some (exd dx [("what", y1)]) := Eq.trans (upd_ne hne) upd_same
    refine ⟨_, rfl, _, rfl, a, C, rfl, T.oex, T.no _ (by simp), .inr ⟨dx, _, e0, d0, (by show 1 ≤ 900; decide), ?_⟩⟩
    refine ⟨_, rfl, _, rfl, a, C, rfl, T.oex, T.no _ (by simp), .inr ⟨dx, _, Eq.trans (upd_ne hne.symm) e0, upd_same, (by show 2 ≤ 900; decide), ?_⟩⟩
    exact q dx _ hd hne (Eq.trans (upd_ne hne.symm) (Eq.trans (upd_ne hne.symm) e0)) upd_same fun b h1 h2 => Eq.trans (upd_ne h2) (Eq.trans (upd_ne h2) (Eq.trans (upd_ne h1) (upd_ne h2)))
/-- the nineteen errors, class i at C i -/
structure Errs (K : PySem.W.Frag) (mg : Str → Option Value) (C fI : Nat → Addr) (fd : Nat → FuncData) (CS : Addr) : Prop where
  e0 : ErrT K mg "BadName" (C 0) ["name"]
  i0 : IniT K "BadName.__init__" si_BadName ["self", "name"] (C 0) (fI 0) (fd 0)
  e1 : ErrT K mg "BadMatrix" (C 1) ["what"]
  i1 : IniT K "BadMatrix.__init__" si_BadMatrix ["self", "what"] (C 1) (fI 1) (fd 1)
  e2 : ErrT K mg "ByZero" (C 2) ["place"]
  i2 : IniT K "ByZero.__init__" si_ByZero ["self", "place"] (C 2) (fI 2) (fd 2)
  e3 : ErrT K mg "NotPower" (C 3) ["place"]
  i3 : IniT K "NotPower.__init__" si_NotPower ["self", "place"] (C 3) (fI 3) (fd 3)
  e4 : ErrT K mg "HasIf" (C 4) ["name"]
  i4 : IniT K "HasIf.__init__" si_HasIf ["self", "name"] (C 4) (fI 4) (fd 4)
  e5 : ErrT K mg "NoUnit" (C 5) ["name"]
  i5 : IniT K "NoUnit.__init__" si_NoUnit ["self", "name"] (C 5) (fI 5) (fd 5)
  e6 : ErrT K mg "NoName" (C 6) ["name"]
  i6 : IniT K "NoName.__init__" si_NoName ["self", "name"] (C 6) (fI 6) (fd 6)
  e7 : ErrT K mg "TakenName" (C 7) ["name"]
  i7 : IniT K "TakenName.__init__" si_TakenName ["self", "name"] (C 7) (fI 7) (fd 7)
  e8 : ErrT K mg "TooDeep" (C 8) ["limit"]
  i8 : IniT K "TooDeep.__init__" si_TooDeep ["self", "limit"] (C 8) (fI 8) (fd 8)
  e9 : ErrT K mg "NotWhole" (C 9) ["what"]
  i9 : IniT K "NotWhole.__init__" si_NotWhole ["self", "what"] (C 9) (fI 9) (fd 9)
  e10 : ErrT K mg "BadText" (C 10) ["line", "column"]
  i10 : IniT K "BadText.__init__" si_BadText ["self", "line", "column"] (C 10) (fI 10) (fd 10)
  e11 : ErrT K mg "BadNumber" (C 11) ["what", "number"]
  i11 : IniT K "BadNumber.__init__" si_BadNumber ["self", "what", "number"] (C 11) (fI 11) (fd 11)
  e12 : ErrT K mg "Contradicted" (C 12) ["first", "second"]
  i12 : IniT K "Contradicted.__init__" si_Contradicted ["self", "first", "second"] (C 12) (fI 12) (fd 12)
  e13 : ErrT K mg "NotKept" (C 13) ["promise", "witness"]
  i13 : IniT K "NotKept.__init__" si_NotKept ["self", "promise", "witness"] (C 13) (fI 13) (fd 13)
  e14 : ErrT K mg "Unlike" (C 14) ["place", "one", "other"]
  i14 : IniT K "Unlike.__init__" si_Unlike ["self", "place", "one", "other"] (C 14) (fI 14) (fd 14)
  e15 : ErrT K mg "TooMany" (C 15) ["what", "many", "limit"]
  i15 : IniT K "TooMany.__init__" si_TooMany ["self", "what", "many", "limit"] (C 15) (fI 15) (fd 15)
  e16 : ErrT K mg "TooLarge" (C 16) ["what", "number", "limit"]
  i16 : IniT K "TooLarge.__init__" si_TooLarge ["self", "what", "number", "limit"] (C 16) (fI 16) (fd 16)
  e17 : ErrT K mg "NothingToUndo" (C 17) []
  e18 : ErrT K mg "NothingToRedo" (C 18) []
  x17 : PySem.W.excIn K (C 17) PySem.HandSPX.veTail "ValueError.__new__" = true
  x18 : PySem.W.excIn K (C 18) PySem.HandSPX.veTail "ValueError.__new__" = true
  kit : ∀ i, i < 19 → ∀ j, j < 19 → PySem.W.kitOne K (.ref (C i)) (.ref (C j)) = some (decide (j = i))
  kS : ∀ i, i < 19 → PySem.W.kitOne K (.ref (C i)) (.ref CS) = some true
  kV : ∀ i, i < 19 → PySem.W.kitOne K (.ref (C i)) (.type "ValueError") = some true
  mS : mg "ScaleError" = some (.ref CS)
  nV : mg "ValueError" = none
/-- what a maker hands back: the error and its fields, both new -/
def ERet (C : Addr) (xs : List V) (H : Hp) (Q : VK) : Prop := ∀ (e t t2 : Addr) (H' : Hp), Same H H' → EV H' e C → H' t = some (.tup xs) → H' t2 = some (.tup [.ref e, .ref t]) → Q (.ref t2) H'
def spOne (C : Nat → Addr) : Sp := fun vs H Q _ => ∃ (i : Nat) (v : V), vs = [.int (i : Int), v] ∧ i < 10 ∧ ERet (C i) [v] H Q
def spTwo (C : Nat → Addr) : Sp := fun vs H Q _ => ∃ (i : Nat) (v y : V), vs = [.int (i : Int), v, y] ∧ 10 ≤ i ∧ i < 14 ∧ ERet (C i) [v, y] H Q
section
variable {H H1 : Hp} {e dx t t2 a : Addr} {C : Addr} {xs ys : List V} {fs : List (Str × V)}
theorem mk_same1 (he : H e = none) (hd : upd H e (exo e C none) dx = none) (hne : dx ≠ e) (kp : ∀ b, b ≠ e → b ≠ dx → H1 b = upd H e (exo e C none) b) : Same H H1 := fun b o z => by
  have n1 : b ≠ e := ne_of_none z he
  have n2 : b ≠ dx := fun w => by
    rw [w] at z
    rw [upd_ne hne, z] at hd
    cases hd
  rw [kp b n1 n2, upd_ne n1]; exact z
theorem mk_same (he : H e = none) (hd : upd H e (exo e C none) dx = none) (hne : dx ≠ e) (kp : ∀ b, b ≠ e → b ≠ dx → H1 b = upd H e (exo e C none) b) (ht : H1 t = none) (ht2 : upd H1 t (.tup xs) t2 = none) : Same H (upd (upd H1 t (.tup xs)) t2 (.tup ys)) := fun b o z => by
  have z1 := mk_same1 he hd hne kp b o z
  have z2 : upd H1 t (.tup xs) b = some o := by rw [upd_ne (ne_of_none z1 ht)]; exact z1
  rw [upd_ne (ne_of_none z2 ht2)]; exact z2
theorem mk_ev (hd : upd H e (exo e C none) dx = none) (hne : dx ≠ e) (e1 : H1 e = some (exo e C (some dx))) (e2 : H1 dx = some (exd dx fs)) (ht : H1 t = none) (ht2 : upd H1 t (.tup xs) t2 = none) : EV (upd (upd H1 t (.tup xs)) t2 (.tup ys)) e C := by
  have a1 : upd H1 t (.tup xs) e = some (exo e C (some dx)) := by rw [upd_ne (ne_of_none e1 ht)]; exact e1
  have a2 : upd H1 t (.tup xs) dx = some (exd dx fs) := by rw [upd_ne (ne_of_none e2 ht)]; exact e2
  exact .inl ⟨dx, fs, by rw [upd_ne (ne_of_none a1 ht2)]; exact a1, by rw [upd_ne (ne_of_none a2 ht2)]; exact a2⟩
theorem mk_t (ht : H1 t = none) (ht2 : upd H1 t (.tup xs) t2 = none) : upd (upd H1 t (.tup xs)) t2 (.tup ys) t = some (.tup xs) := by
  rw [upd_ne (fun w => by rw [← w, upd_same] at ht2; cases ht2), upd_same]
end
abbrev st_law_of_one : Stmt := top 27
theorem sc_law_of_one : FnScope ["_law_kind", "_law_a", "_law_e"] ["_law_kind", "_law_a"] (defScope st_law_of_one) := ⟨rfl, rfl, rfl, by decide +kernel, rfl, by decide +kernel, by decide +kernel⟩
theorem ok_law_of_one (B : Blt mg) {C fI : Nat → Addr} {fdI : Nat → FuncData} {CS : Addr} (Es : Errs K mg C fI fdI CS) {f_law_of_one : Addr} {fd_law_of_one : FuncData} (D_law_of_one : DefAt K mg "_law_of_one" st_law_of_one ["_law_kind", "_law_a"] f_law_of_one fd_law_of_one) : FnOk P w K mg base CX0 3 f_law_of_one fd_law_of_one ["_law_kind", "_law_a"] (spOne C) := by
  refine D_law_of_one.F.ok sc_law_of_one (fun vs H Q E h => ?_) (fun cdv A outer s H vs Q E hr h => ?_)
  · obtain ⟨i, v, rfl, _⟩ := h; rfl
  · have hu := hu_of hr
    refine ⟨_, (pss_cons (ps_if (pt_cmpR op_eq (pv 0) pe_int (nomark _)) (pss_cons (ps_set (i := 2) sc_law_of_one.nd rfl (Or.inl rfl) (pe_mkV Es.e0.oex Es.i0.fi Es.i0.ti (oki_BadName Es.e0 Es.i0) (hr.mono (by decide)) Es.i0.b pass0 rfl Es.e0.m (pa_cons (pv 1) pa_nil)))
    (pss_one (ps_ret (pe_tup (pa_cons (pv 2) (pa_cons (pe_tup (pa_cons (pe_fv (pv 2)) pa_nil)) pa_nil)))))) pss_nil)
    (pss_cons (ps_if (pt_cmpR op_eq (pv 0) pe_int (nomark _)) (pss_cons (ps_set (i := 2) sc_law_of_one.nd rfl (Or.inl rfl) (pe_mkV Es.e1.oex Es.i1.fi Es.i1.ti (oki_BadMatrix Es.e1 Es.i1) (hr.mono (by decide)) Es.i1.b pass0 rfl Es.e1.m (pa_cons (pv 1) pa_nil)))
    (pss_one (ps_ret (pe_tup (pa_cons (pv 2) (pa_cons (pe_tup (pa_cons (pe_fv (pv 2)) pa_nil)) pa_nil)))))) pss_nil)
    (pss_cons (ps_if (pt_cmpR op_eq (pv 0) pe_int (nomark _)) (pss_cons (ps_set (i := 2) sc_law_of_one.nd rfl (Or.inl rfl) (pe_mkV Es.e2.oex Es.i2.fi Es.i2.ti (oki_ByZero Es.e2 Es.i2) (hr.mono (by decide)) Es.i2.b pass0 rfl Es.e2.m (pa_cons (pv 1) pa_nil)))
    (pss_one (ps_ret (pe_tup (pa_cons (pv 2) (pa_cons (pe_tup (pa_cons (pe_fv (pv 2)) pa_nil)) pa_nil)))))) pss_nil)
    (pss_cons (ps_if (pt_cmpR op_eq (pv 0) pe_int (nomark _)) (pss_cons (ps_set (i := 2) sc_law_of_one.nd rfl (Or.inl rfl) (pe_mkV Es.e3.oex Es.i3.fi Es.i3.ti (oki_NotPower Es.e3 Es.i3) (hr.mono (by decide)) Es.i3.b pass0 rfl Es.e3.m (pa_cons (pv 1) pa_nil)))
    (pss_one (ps_ret (pe_tup (pa_cons (pv 2) (pa_cons (pe_tup (pa_cons (pe_fv (pv 2)) pa_nil)) pa_nil)))))) pss_nil)
    (pss_cons (ps_if (pt_cmpR op_eq (pv 0) pe_int (nomark _)) (pss_cons (ps_set (i := 2) sc_law_of_one.nd rfl (Or.inl rfl) (pe_mkV Es.e4.oex Es.i4.fi Es.i4.ti (oki_HasIf Es.e4 Es.i4) (hr.mono (by decide)) Es.i4.b pass0 rfl Es.e4.m (pa_cons (pv 1) pa_nil)))
    (pss_one (ps_ret (pe_tup (pa_cons (pv 2) (pa_cons (pe_tup (pa_cons (pe_fv (pv 2)) pa_nil)) pa_nil)))))) pss_nil)
    (pss_cons (ps_if (pt_cmpR op_eq (pv 0) pe_int (nomark _)) (pss_cons (ps_set (i := 2) sc_law_of_one.nd rfl (Or.inl rfl) (pe_mkV Es.e5.oex Es.i5.fi Es.i5.ti (oki_NoUnit Es.e5 Es.i5) (hr.mono (by decide)) Es.i5.b pass0 rfl Es.e5.m (pa_cons (pv 1) pa_nil)))
    (pss_one (ps_ret (pe_tup (pa_cons (pv 2) (pa_cons (pe_tup (pa_cons (pe_fv (pv 2)) pa_nil)) pa_nil)))))) pss_nil)
    (pss_cons (ps_if (pt_cmpR op_eq (pv 0) pe_int (nomark _)) (pss_cons (ps_set (i := 2) sc_law_of_one.nd rfl (Or.inl rfl) (pe_mkV Es.e6.oex Es.i6.fi Es.i6.ti (oki_NoName Es.e6 Es.i6) (hr.mono (by decide)) Es.i6.b pass0 rfl Es.e6.m (pa_cons (pv 1) pa_nil)))
    (pss_one (ps_ret (pe_tup (pa_cons (pv 2) (pa_cons (pe_tup (pa_cons (pe_fv (pv 2)) pa_nil)) pa_nil)))))) pss_nil)
    (pss_cons (ps_if (pt_cmpR op_eq (pv 0) pe_int (nomark _)) (pss_cons (ps_set (i := 2) sc_law_of_one.nd rfl (Or.inl rfl) (pe_mkV Es.e7.oex Es.i7.fi Es.i7.ti (oki_TakenName Es.e7 Es.i7) (hr.mono (by decide)) Es.i7.b pass0 rfl Es.e7.m (pa_cons (pv 1) pa_nil)))
    (pss_one (ps_ret (pe_tup (pa_cons (pv 2) (pa_cons (pe_tup (pa_cons (pe_fv (pv 2)) pa_nil)) pa_nil)))))) pss_nil)
    (pss_cons (ps_if (pt_cmpR op_eq (pv 0) pe_int (nomark _)) (pss_cons (ps_set (i := 2) sc_law_of_one.nd rfl (Or.inl rfl) (pe_mkV Es.e8.oex Es.i8.fi Es.i8.ti (oki_TooDeep Es.e8 Es.i8) (hr.mono (by decide)) Es.i8.b pass0 rfl Es.e8.m (pa_cons (pv 1) pa_nil)))
    (pss_one (ps_ret (pe_tup (pa_cons (pv 2) (pa_cons (pe_tup (pa_cons (pe_fv (pv 2)) pa_nil)) pa_nil)))))) pss_nil)
    (pss_cons (ps_set (i := 2) sc_law_of_one.nd rfl (Or.inl rfl) (pe_mkV Es.e9.oex Es.i9.fi Es.i9.ti (oki_NotWhole Es.e9 Es.i9) (hr.mono (by decide)) Es.i9.b pass0 rfl Es.e9.m (pa_cons (pv 1) pa_nil)))
    (pss_one (ps_ret (pe_tup (pa_cons (pv 2) (pa_cons (pe_tup (pa_cons (pe_fv (pv 2)) pa_nil)) pa_nil))))))))))))))), ?_⟩
    obtain ⟨i, v, rfl, hi9, q⟩ := h
    refine ⟨_, rfl, rfl, _, rfl, ?_⟩
    refine ite2 (fun hi => ?_) (fun hn0 => ?_)
    · have hi := vi_eq (j := 0) hi
      subst hi
      refine ⟨_, rfl, (by show 1 ≤ 1000; decide), fun e he => ⟨e, [v], rfl, rfl, upd_same, fun dx H1 hd hne e1 e2 kp => ⟨rfl, ?_⟩⟩⟩
      refine ⟨_, rfl, _, rfl, e, C 0, dx, _, v, rfl, Es.e0.xf, Es.e0.no _ (by simp), e1, e2, (by kernel_rfl), (by show 1 ≤ sizeLine; decide), fun t ht => ⟨(by show 2 ≤ sizeLine; decide), fun t2 ht2 => ?_⟩⟩
      exact q e t t2 _ (mk_same he hd hne kp ht ht2) (mk_ev hd hne e1 e2 ht ht2) (mk_t ht ht2) upd_same
    have hn0 := vi_ne (j := 0) hn0
    refine ⟨_, rfl, rfl, _, rfl, ?_⟩
    refine ite2 (fun hi => ?_) (fun hn1 => ?_)
    · have hi := vi_eq (j := 1) hi
      subst hi
      refine ⟨_, rfl, (by show 1 ≤ 1000; decide), fun e he => ⟨e, [v], rfl, rfl, upd_same, fun dx H1 hd hne e1 e2 kp => ⟨rfl, ?_⟩⟩⟩
      refine ⟨_, rfl, _, rfl, e, C 1, dx, _, v, rfl, Es.e1.xf, Es.e1.no _ (by simp), e1, e2, (by kernel_rfl), (by show 1 ≤ sizeLine; decide), fun t ht => ⟨(by show 2 ≤ sizeLine; decide), fun t2 ht2 => ?_⟩⟩
      exact q e t t2 _ (mk_same he hd hne kp ht ht2) (mk_ev hd hne e1 e2 ht ht2) (mk_t ht ht2) upd_same
    have hn1 := vi_ne (j := 1) hn1
    refine ⟨_, rfl, rfl, _, rfl, ?_⟩
    refine ite2 (fun hi => ?_) (fun hn2 => ?_)
    · have hi := vi_eq (j := 2) hi
      subst hi
      refine ⟨_, rfl, (by show 1 ≤ 1000; decide), fun e he => ⟨e, [v], rfl, rfl, upd_same, fun dx H1 hd hne e1 e2 kp => ⟨rfl, ?_⟩⟩⟩
      refine ⟨_, rfl, _, rfl, e, C 2, dx, _, v, rfl, Es.e2.xf, Es.e2.no _ (by simp), e1, e2, (by kernel_rfl), (by show 1 ≤ sizeLine; decide), fun t ht => ⟨(by show 2 ≤ sizeLine; decide), fun t2 ht2 => ?_⟩⟩
      exact q e t t2 _ (mk_same he hd hne kp ht ht2) (mk_ev hd hne e1 e2 ht ht2) (mk_t ht ht2) upd_same
    have hn2 := vi_ne (j := 2) hn2
    refine ⟨_, rfl, rfl, _, rfl, ?_⟩
    refine ite2 (fun hi => ?_) (fun hn3 => ?_)
    · have hi := vi_eq (j := 3) hi
      subst hi
      refine ⟨_, rfl, (by show 1 ≤ 1000; decide), fun e he => ⟨e, [v], rfl, rfl, upd_same, fun dx H1 hd hne e1 e2 kp => ⟨rfl, ?_⟩⟩⟩
      refine ⟨_, rfl, _, rfl, e, C 3, dx, _, v, rfl, Es.e3.xf, Es.e3.no _ (by simp), e1, e2, (by kernel_rfl), (by show 1 ≤ sizeLine; decide), fun t ht => ⟨(by show 2 ≤ sizeLine; decide), fun t2 ht2 => ?_⟩⟩
      exact q e t t2 _ (mk_same he hd hne kp ht ht2) (mk_ev hd hne e1 e2 ht ht2) (mk_t ht ht2) upd_same
    have hn3 := vi_ne (j := 3) hn3
    refine ⟨_, rfl, rfl, _, rfl, ?_⟩
    refine ite2 (fun hi => ?_) (fun hn4 => ?_)
    · have hi := vi_eq (j := 4) hi
      subst hi
      refine ⟨_, rfl, (by show 1 ≤ 1000; decide), fun e he => ⟨e, [v], rfl, rfl, upd_same, fun dx H1 hd hne e1 e2 kp => ⟨rfl, ?_⟩⟩⟩
      refine ⟨_, rfl, _, rfl, e, C 4, dx, _, v, rfl, Es.e4.xf, Es.e4.no _ (by simp), e1, e2, (by kernel_rfl), (by show 1 ≤ sizeLine; decide), fun t ht => ⟨(by show 2 ≤ sizeLine; decide), fun t2 ht2 => ?_⟩⟩
      exact q e t t2 _ (mk_same he hd hne kp ht ht2) (mk_ev hd hne e1 e2 ht ht2) (mk_t ht ht2) upd_same
    have hn4 := vi_ne (j := 4) hn4
    refine ⟨_, rfl, rfl, _, rfl, ?_⟩
    refine ite2 (fun hi => ?_) (fun hn5 => ?_)
    · have hi := vi_eq (j := 5) hi
      subst hi
      refine ⟨_, rfl, (by show 1 ≤ 1000; decide), fun e he => ⟨e, [v], rfl, rfl, upd_same, fun dx H1 hd hne e1 e2 kp => ⟨rfl, ?_⟩⟩⟩
      refine ⟨_, rfl, _, rfl, e, C 5, dx, _, v, rfl, Es.e5.xf, Es.e5.no _ (by simp), e1, e2, (by kernel_rfl), (by show 1 ≤ sizeLine; decide), fun t ht => ⟨(by show 2 ≤ sizeLine; decide), fun t2 ht2 => ?_⟩⟩
      exact q e t t2 _ (mk_same he hd hne kp ht ht2) (mk_ev hd hne e1 e2 ht ht2) (mk_t ht ht2) upd_same
    have hn5 := vi_ne (j := 5) hn5
    refine ⟨_, rfl, rfl, _, rfl, ?_⟩
    refine ite2 (fun hi => ?_) (fun hn6 => ?_)
    · have hi := vi_eq (j := 6) hi
      subst hi
      refine ⟨_, rfl, (by show 1 ≤ 1000; decide), fun e he => ⟨e, [v], rfl, rfl, upd_same, fun dx H1 hd hne e1 e2 kp => ⟨rfl, ?_⟩⟩⟩
      refine ⟨_, rfl, _, rfl, e, C 6, dx, _, v, rfl, Es.e6.xf, Es.e6.no _ (by simp), e1, e2, (by kernel_rfl), (by show 1 ≤ sizeLine; decide), fun t ht => ⟨(by show 2 ≤ sizeLine; decide), fun t2 ht2 => ?_⟩⟩
      exact q e t t2 _ (mk_same he hd hne kp ht ht2) (mk_ev hd hne e1 e2 ht ht2) (mk_t ht ht2) upd_same
    have hn6 := vi_ne (j := 6) hn6
    refine ⟨_, rfl, rfl, _, rfl, ?_⟩
    refine ite2 (fun hi => ?_) (fun hn7 => ?_)
    · have hi := vi_eq (j := 7) hi
      subst hi
      refine ⟨_, rfl, (by show 1 ≤ 1000; decide), fun e he => ⟨e, [v], rfl, rfl, upd_same, fun dx H1 hd hne e1 e2 kp => ⟨rfl, ?_⟩⟩⟩
      refine ⟨_, rfl, _, rfl, e, C 7, dx, _, v, rfl, Es.e7.xf, Es.e7.no _ (by simp), e1, e2, (by kernel_rfl), (by show 1 ≤ sizeLine; decide), fun t ht => ⟨(by show 2 ≤ sizeLine; decide), fun t2 ht2 => ?_⟩⟩
      exact q e t t2 _ (mk_same he hd hne kp ht ht2) (mk_ev hd hne e1 e2 ht ht2) (mk_t ht ht2) upd_same
    have hn7 := vi_ne (j := 7) hn7
    refine ⟨_, rfl, rfl, _, rfl, ?_⟩
    refine ite2 (fun hi => ?_) (fun hn8 => ?_)
    · have hi := vi_eq (j := 8) hi
      subst hi
      refine ⟨_, rfl, (by show 1 ≤ 1000; decide), fun e he => ⟨e, [v], rfl, rfl, upd_same, fun dx H1 hd hne e1 e2 kp => ⟨rfl, ?_⟩⟩⟩
      refine ⟨_, rfl, _, rfl, e, C 8, dx, _, v, rfl, Es.e8.xf, Es.e8.no _ (by simp), e1, e2, (by kernel_rfl), (by show 1 ≤ sizeLine; decide), fun t ht => ⟨(by show 2 ≤ sizeLine; decide), fun t2 ht2 => ?_⟩⟩
      exact q e t t2 _ (mk_same he hd hne kp ht ht2) (mk_ev hd hne e1 e2 ht ht2) (mk_t ht ht2) upd_same
    have hn8 := vi_ne (j := 8) hn8
    obtain rfl : i = 9 := by omega
    refine ⟨_, rfl, (by show 1 ≤ 1000; decide), fun e he => ⟨e, [v], rfl, rfl, upd_same, fun dx H1 hd hne e1 e2 kp => ⟨rfl, ?_⟩⟩⟩
    refine ⟨_, rfl, _, rfl, e, C 9, dx, _, v, rfl, Es.e9.xf, Es.e9.no _ (by simp), e1, e2, (by kernel_rfl), (by show 1 ≤ sizeLine; decide), fun t ht => ⟨(by show 2 ≤ sizeLine; decide), fun t2 ht2 => ?_⟩⟩
    exact q e t t2 _ (mk_same he hd hne kp ht ht2) (mk_ev hd hne e1 e2 ht ht2) (mk_t ht ht2) upd_same
abbrev st_law_of_two : Stmt := top 28
theorem sc_law_of_two : FnScope ["_law_kind", "_law_a", "_law_b", "_law_e"] ["_law_kind", "_law_a", "_law_b"] (defScope st_law_of_two) := ⟨rfl, rfl, rfl, by decide +kernel, rfl, by decide +kernel, by decide +kernel⟩
theorem ok_law_of_two (B : Blt mg) {C fI : Nat → Addr} {fdI : Nat → FuncData} {CS : Addr} (Es : Errs K mg C fI fdI CS) {f_law_of_two : Addr} {fd_law_of_two : FuncData} (D_law_of_two : DefAt K mg "_law_of_two" st_law_of_two ["_law_kind", "_law_a", "_law_b"] f_law_of_two fd_law_of_two) : FnOk P w K mg base CX0 3 f_law_of_two fd_law_of_two ["_law_kind", "_law_a", "_law_b"] (spTwo C) := by
  refine D_law_of_two.F.ok sc_law_of_two (fun vs H Q E h => ?_) (fun cdv A outer s H vs Q E hr h => ?_)
  · obtain ⟨i, v, y, rfl, _⟩ := h; rfl
  · have hu := hu_of hr
    refine ⟨_, (pss_cons (ps_if (pt_cmpR op_eq (pv 0) pe_int (nomark _)) (pss_cons (ps_set (i := 3) sc_law_of_two.nd rfl (Or.inl rfl) (pe_mkV Es.e10.oex Es.i10.fi Es.i10.ti (oki_BadText Es.e10 Es.i10) (hr.mono (by decide)) Es.i10.b pass0 rfl Es.e10.m (pa_cons (pv 1) (pa_cons (pv 2) pa_nil))))
    (pss_one (ps_ret (pe_tup (pa_cons (pv 3) (pa_cons (pe_tup (pa_cons (pe_fv (pv 3)) (pa_cons (pe_fv (pv 3)) pa_nil))) pa_nil)))))) pss_nil)
    (pss_cons (ps_if (pt_cmpR op_eq (pv 0) pe_int (nomark _)) (pss_cons (ps_set (i := 3) sc_law_of_two.nd rfl (Or.inl rfl) (pe_mkV Es.e11.oex Es.i11.fi Es.i11.ti (oki_BadNumber Es.e11 Es.i11) (hr.mono (by decide)) Es.i11.b pass0 rfl Es.e11.m (pa_cons (pv 1) (pa_cons (pv 2) pa_nil))))
    (pss_one (ps_ret (pe_tup (pa_cons (pv 3) (pa_cons (pe_tup (pa_cons (pe_fv (pv 3)) (pa_cons (pe_fv (pv 3)) pa_nil))) pa_nil)))))) pss_nil)
    (pss_cons (ps_if (pt_cmpR op_eq (pv 0) pe_int (nomark _)) (pss_cons (ps_set (i := 3) sc_law_of_two.nd rfl (Or.inl rfl) (pe_mkV Es.e12.oex Es.i12.fi Es.i12.ti (oki_Contradicted Es.e12 Es.i12) (hr.mono (by decide)) Es.i12.b pass0 rfl Es.e12.m (pa_cons (pv 1) (pa_cons (pv 2) pa_nil))))
    (pss_one (ps_ret (pe_tup (pa_cons (pv 3) (pa_cons (pe_tup (pa_cons (pe_fv (pv 3)) (pa_cons (pe_fv (pv 3)) pa_nil))) pa_nil)))))) pss_nil)
    (pss_cons (ps_set (i := 3) sc_law_of_two.nd rfl (Or.inl rfl) (pe_mkV Es.e13.oex Es.i13.fi Es.i13.ti (oki_NotKept Es.e13 Es.i13) (hr.mono (by decide)) Es.i13.b pass0 rfl Es.e13.m (pa_cons (pv 1) (pa_cons (pv 2) pa_nil))))
    (pss_one (ps_ret (pe_tup (pa_cons (pv 3) (pa_cons (pe_tup (pa_cons (pe_fv (pv 3)) (pa_cons (pe_fv (pv 3)) pa_nil))) pa_nil))))))))), ?_⟩
    obtain ⟨i, v, y, rfl, hi9, hi13, q⟩ := h
    refine ⟨_, rfl, rfl, _, rfl, ?_⟩
    refine ite2 (fun hi => ?_) (fun hn10 => ?_)
    · have hi := vi_eq (j := 10) hi
      subst hi
      refine ⟨_, rfl, _, rfl, (by show 2 ≤ 1000; decide), fun e he => ⟨e, [v, y], rfl, rfl, upd_same, fun dx H1 hd hne e1 e2 kp => ⟨rfl, ?_⟩⟩⟩
      refine ⟨_, rfl, _, rfl, e, C 10, dx, _, v, rfl, Es.e10.xf, Es.e10.no _ (by simp), e1, e2, (by kernel_rfl), _, rfl, e, C 10, dx, _, y, rfl, Es.e10.xf, Es.e10.no _ (by simp), e1, e2, (by kernel_rfl), (by show 2 ≤ sizeLine; decide), fun t ht => ⟨(by show 2 ≤ sizeLine; decide), fun t2 ht2 => ?_⟩⟩
      exact q e t t2 _ (mk_same he hd hne kp ht ht2) (mk_ev hd hne e1 e2 ht ht2) (mk_t ht ht2) upd_same
    have hn10 := vi_ne (j := 10) hn10
    refine ⟨_, rfl, rfl, _, rfl, ?_⟩
    refine ite2 (fun hi => ?_) (fun hn11 => ?_)
    · have hi := vi_eq (j := 11) hi
      subst hi
      refine ⟨_, rfl, _, rfl, (by show 2 ≤ 1000; decide), fun e he => ⟨e, [v, y], rfl, rfl, upd_same, fun dx H1 hd hne e1 e2 kp => ⟨rfl, ?_⟩⟩⟩
      refine ⟨_, rfl, _, rfl, e, C 11, dx, _, v, rfl, Es.e11.xf, Es.e11.no _ (by simp), e1, e2, (by kernel_rfl), _, rfl, e, C 11, dx, _, y, rfl, Es.e11.xf, Es.e11.no _ (by simp), e1, e2, (by kernel_rfl), (by show 2 ≤ sizeLine; decide), fun t ht => ⟨(by show 2 ≤ sizeLine; decide), fun t2 ht2 => ?_⟩⟩
      exact q e t t2 _ (mk_same he hd hne kp ht ht2) (mk_ev hd hne e1 e2 ht ht2) (mk_t ht ht2) upd_same
    have hn11 := vi_ne (j := 11) hn11
    refine ⟨_, rfl, rfl, _, rfl, ?_⟩
    refine ite2 (fun hi => ?_) (fun hn12 => ?_)
    · have hi := vi_eq (j := 12) hi
      subst hi
      refine ⟨_, rfl, _, rfl, (by show 2 ≤ 1000; decide), fun e he => ⟨e, [v, y], rfl, rfl, upd_same, fun dx H1 hd hne e1 e2 kp => ⟨rfl, ?_⟩⟩⟩
      refine ⟨_, rfl, _, rfl, e, C 12, dx, _, v, rfl, Es.e12.xf, Es.e12.no _ (by simp), e1, e2, (by kernel_rfl), _, rfl, e, C 12, dx, _, y, rfl, Es.e12.xf, Es.e12.no _ (by simp), e1, e2, (by kernel_rfl), (by show 2 ≤ sizeLine; decide), fun t ht => ⟨(by show 2 ≤ sizeLine; decide), fun t2 ht2 => ?_⟩⟩
      exact q e t t2 _ (mk_same he hd hne kp ht ht2) (mk_ev hd hne e1 e2 ht ht2) (mk_t ht ht2) upd_same
    have hn12 := vi_ne (j := 12) hn12
    obtain rfl : i = 13 := by omega
    refine ⟨_, rfl, _, rfl, (by show 2 ≤ 1000; decide), fun e he => ⟨e, [v, y], rfl, rfl, upd_same, fun dx H1 hd hne e1 e2 kp => ⟨rfl, ?_⟩⟩⟩
    refine ⟨_, rfl, _, rfl, e, C 13, dx, _, v, rfl, Es.e13.xf, Es.e13.no _ (by simp), e1, e2, (by kernel_rfl), _, rfl, e, C 13, dx, _, y, rfl, Es.e13.xf, Es.e13.no _ (by simp), e1, e2, (by kernel_rfl), (by show 2 ≤ sizeLine; decide), fun t ht => ⟨(by show 2 ≤ sizeLine; decide), fun t2 ht2 => ?_⟩⟩
    exact q e t t2 _ (mk_same he hd hne kp ht ht2) (mk_ev hd hne e1 e2 ht ht2) (mk_t ht ht2) upd_same
end
end AL
set_option Elab.async false
set_option maxRecDepth 100000
namespace AL
open PySem L2

def nf (i : Nat) : Nat := if i < 10 then 1 else if i < 14 then 2 else if i < 17 then 3 else 0
theorem nf_1 {i : Nat} (h : i < 10) : nf i = 1 := if_pos h
theorem nf_2 {i : Nat} (h : 10 ≤ i) (h2 : i < 14) : nf i = 2 := by unfold nf; rw [if_neg (by omega), if_pos h2]
def spMade (K : PySem.W.Frag) (C : Nat → Addr) : Sp := fun vs H Q _ => ∃ (i : Nat) (l : Addr) (v y z : V), vs = [.int (i : Int), .ref l] ∧ i < 19 ∧ SqL K H l [v, y, z] ∧ ERet (C i) (([v, y, z] : List V).take (nf i)) H Q
def spKinds (C : Nat → Addr) : Sp := fun vs H Q _ => ∃ (e : Addr) (i : Nat), vs = [.ref e] ∧ i < 19 ∧ EV H e (C i) ∧ ∀ (p : Addr) (H' : Hp), Same H H' → H' p = some (.lst ((((List.range 19).map fun j => decide (j = i))).map V.bl)) → Q (.ref p) H'
theorem Errs.exc {K : PySem.W.Frag} {mg : Str → Option Value} {C fI : Nat → Addr} {fdI : Nat → FuncData} {CS : Addr} (Es : Errs K mg C fI fdI CS) : ∀ i, i < 19 → ExcC K (C i)
  | 0, _ => Es.e0.ex
  | 1, _ => Es.e1.ex
  | 2, _ => Es.e2.ex
  | 3, _ => Es.e3.ex
  | 4, _ => Es.e4.ex
  | 5, _ => Es.e5.ex
  | 6, _ => Es.e6.ex
  | 7, _ => Es.e7.ex
  | 8, _ => Es.e8.ex
  | 9, _ => Es.e9.ex
  | 10, _ => Es.e10.ex
  | 11, _ => Es.e11.ex
  | 12, _ => Es.e12.ex
  | 13, _ => Es.e13.ex
  | 14, _ => Es.e14.ex
  | 15, _ => Es.e15.ex
  | 16, _ => Es.e16.ex
  | 17, _ => Es.e17.ex
  | 18, _ => Es.e18.ex
  | n + 19, h => absurd h (by omega)
theorem Same.new2 {H : Hp} {p : Addr} {o : HO} (h : H p = none) : Same H (upd H p o) := AL.Same.new h
theorem cut_take {xs : List V} {n : Nat} (h : n ≤ xs.length) : cutV xs none (some (n : Int)) = xs.take n := by
  unfold cutV
  rw [HT.sIx_none, HT.sIx_nat, List.drop_zero, Nat.sub_zero, Nat.min_eq_left h]
section
variable {P : Program} {w : World} {K : PySem.W.Frag} {mg : Str → Option Value} {base : Heap}
abbrev st_law_made : Stmt := top 29
theorem sc_law_made : FnScope ["_law_kind", "_law_values", "_law_e"] ["_law_kind", "_law_values"] (defScope st_law_made) := ⟨rfl, rfl, rfl, by decide +kernel, rfl, by decide +kernel, by decide +kernel⟩
theorem ok_law_made (B : Blt mg) {C fI : Nat → Addr} {fdI : Nat → FuncData} {CS : Addr} (Es : Errs K mg C fI fdI CS) {f_law_of_one : Addr} {fd_law_of_one : FuncData} (D_law_of_one : DefAt K mg "_law_of_one" st_law_of_one ["_law_kind", "_law_a"] f_law_of_one fd_law_of_one) {f_law_of_two : Addr} {fd_law_of_two : FuncData} (D_law_of_two : DefAt K mg "_law_of_two" st_law_of_two ["_law_kind", "_law_a", "_law_b"] f_law_of_two fd_law_of_two) {f_law_made : Addr} {fd_law_made : FuncData} (D_law_made : DefAt K mg "_law_made" st_law_made ["_law_kind", "_law_values"] f_law_made fd_law_made) : FnOk P w K mg base CX0 4 f_law_made fd_law_made ["_law_kind", "_law_values"] (spMade K C) := by
  have OK_law_of_one : FnOk P w K mg base CX0 3 f_law_of_one fd_law_of_one ["_law_kind", "_law_a"] (spOne C) := ok_law_of_one B Es D_law_of_one
  have OK_law_of_two : FnOk P w K mg base CX0 3 f_law_of_two fd_law_of_two ["_law_kind", "_law_a", "_law_b"] (spTwo C) := ok_law_of_two B Es D_law_of_two
  refine D_law_made.F.ok sc_law_made (fun vs H Q E h => ?_) (fun cdv A outer s H vs Q E hr h => ?_)
  · obtain ⟨i, l, v, y, z, rfl, _⟩ := h; rfl
  · have hu := hu_of hr
    refine ⟨_, (pss_cons (ps_if (pt_cmpR op_lt (pv 0) pe_int (nomark _)) (pss_one (ps_ret (pe_call OK_law_of_one (hr.mono (by decide)) rfl D_law_of_one.m D_law_of_one.F.kp D_law_of_one.b .nil pass0 (pa_cons (pv 0) (pa_cons (pe_ix ix_list (pv 1) pe_int (fun _ _ => rfl)) pa_nil))))) pss_nil)
    (pss_cons (ps_if (pt_cmpR op_lt (pv 0) pe_int (nomark _)) (pss_one (ps_ret (pe_call OK_law_of_two (hr.mono (by decide)) rfl D_law_of_two.m D_law_of_two.F.kp D_law_of_two.b .nil pass0 (pa_cons (pv 0) (pa_cons (pe_ix ix_list (pv 1) pe_int (fun _ _ => rfl)) (pa_cons (pe_ix ix_list (pv 1) pe_int (fun _ _ => rfl)) pa_nil)))))) pss_nil)
    (pss_cons (ps_if (pt_cmpR op_eq (pv 0) pe_int (nomark _)) (pss_cons (ps_set (i := 2) sc_law_made.nd rfl (Or.inl rfl) (pe_mkV Es.e14.oex Es.i14.fi Es.i14.ti (oki_Unlike Es.e14 Es.i14) (hr.mono (by decide)) Es.i14.b pass0 rfl Es.e14.m (pa_cons (pe_ix ix_list (pv 1) pe_int (fun _ _ => rfl)) (pa_cons (pe_ix ix_list (pv 1) pe_int (fun _ _ => rfl)) (pa_cons (pe_ix ix_list (pv 1) pe_int (fun _ _ => rfl)) pa_nil)))))
    (pss_one (ps_ret (pe_tup (pa_cons (pv 2) (pa_cons (pe_tup (pa_cons (pe_fv (pv 2)) (pa_cons (pe_fv (pv 2)) (pa_cons (pe_fv (pv 2)) pa_nil)))) pa_nil)))))) pss_nil)
    (pss_cons (ps_if (pt_cmpR op_eq (pv 0) pe_int (nomark _)) (pss_cons (ps_set (i := 2) sc_law_made.nd rfl (Or.inl rfl) (pe_mkV Es.e15.oex Es.i15.fi Es.i15.ti (oki_TooMany Es.e15 Es.i15) (hr.mono (by decide)) Es.i15.b pass0 rfl Es.e15.m (pa_cons (pe_ix ix_list (pv 1) pe_int (fun _ _ => rfl)) (pa_cons (pe_ix ix_list (pv 1) pe_int (fun _ _ => rfl)) (pa_cons (pe_ix ix_list (pv 1) pe_int (fun _ _ => rfl)) pa_nil)))))
    (pss_one (ps_ret (pe_tup (pa_cons (pv 2) (pa_cons (pe_tup (pa_cons (pe_fv (pv 2)) (pa_cons (pe_fv (pv 2)) (pa_cons (pe_fv (pv 2)) pa_nil)))) pa_nil)))))) pss_nil)
    (pss_cons (ps_if (pt_cmpR op_eq (pv 0) pe_int (nomark _)) (pss_cons (ps_set (i := 2) sc_law_made.nd rfl (Or.inl rfl) (pe_mkV Es.e16.oex Es.i16.fi Es.i16.ti (oki_TooLarge Es.e16 Es.i16) (hr.mono (by decide)) Es.i16.b pass0 rfl Es.e16.m (pa_cons (pe_ix ix_list (pv 1) pe_int (fun _ _ => rfl)) (pa_cons (pe_ix ix_list (pv 1) pe_int (fun _ _ => rfl)) (pa_cons (pe_ix ix_list (pv 1) pe_int (fun _ _ => rfl)) pa_nil)))))
    (pss_one (ps_ret (pe_tup (pa_cons (pv 2) (pa_cons (pe_tup (pa_cons (pe_fv (pv 2)) (pa_cons (pe_fv (pv 2)) (pa_cons (pe_fv (pv 2)) pa_nil)))) pa_nil)))))) pss_nil)
    (pss_one (ps_ret (pe_tup (pa_cons (pe_ifExp (pt_cmpR op_eq (pv 0) pe_int (nomark _)) (pe_mkV0 PySem.F.excBase_ValueError Es.x17 Es.e17.m Es.e17.oex.kC rfl) (pe_mkV0 PySem.F.excBase_ValueError Es.x18 Es.e18.m Es.e18.oex.kC rfl)) (pa_cons (pe_tup pa_nil) pa_nil)))))))))), ?_⟩
    obtain ⟨i, l, v, y, z, rfl, hi19, hS, q⟩ := h
    refine ⟨_, rfl, _, _, rfl, rfl, _, rfl, ?_⟩
    refine ite2 (fun h10 => ?_) (fun h10 => ?_)
    · have h10 : i < 10 := by have := of_decide_eq_true h10; omega
      rw [nf_1 h10] at q
      exact ⟨_, rfl, _, rfl, l, _, _, v, rfl, rfl, hS, at_of rfl rfl, i, v, rfl, h10, q⟩
    have h10 : 10 ≤ i := by have := of_decide_eq_false (Bool.eq_false_iff.mpr h10); omega
    refine ⟨_, rfl, _, _, rfl, rfl, _, rfl, ?_⟩
    refine ite2 (fun h14 => ?_) (fun h14 => ?_)
    · have h14 : i < 14 := by have := of_decide_eq_true h14; omega
      rw [nf_2 h10 h14] at q
      exact ⟨_, rfl, _, rfl, l, _, _, v, rfl, rfl, hS, at_of rfl rfl, _, rfl, l, _, _, y, rfl, rfl, hS, at_of rfl rfl, i, v, y, rfl, h10, h14, q⟩
    have h14 : 14 ≤ i := by have := of_decide_eq_false (Bool.eq_false_iff.mpr h14); omega
    refine ⟨_, rfl, rfl, _, rfl, ?_⟩
    refine ite2 (fun hi => ?_) (fun hn14 => ?_)
    · have hi := vi_eq (j := 14) hi
      subst hi
      refine ⟨_, rfl, l, _, _, v, rfl, rfl, hS, at_of rfl rfl, _, rfl, l, _, _, y, rfl, rfl, hS, at_of rfl rfl, _, rfl, l, _, _, z, rfl, rfl, hS, at_of rfl rfl, (by show 3 ≤ 1000; decide), fun e he => ⟨e, [v, y, z], rfl, rfl, upd_same, fun dx H1 hd hne e1 e2 kp => ⟨rfl, ?_⟩⟩⟩
      refine ⟨_, rfl, _, rfl, e, C 14, dx, _, v, rfl, Es.e14.xf, Es.e14.no _ (by simp), e1, e2, (by kernel_rfl), _, rfl, e, C 14, dx, _, y, rfl, Es.e14.xf, Es.e14.no _ (by simp), e1, e2, (by kernel_rfl), _, rfl, e, C 14, dx, _, z, rfl, Es.e14.xf, Es.e14.no _ (by simp), e1, e2, (by kernel_rfl), (by show 3 ≤ sizeLine; decide), fun t ht => ⟨(by show 2 ≤ sizeLine; decide), fun t2 ht2 => ?_⟩⟩
      exact q e t t2 _ (mk_same he hd hne kp ht ht2) (mk_ev hd hne e1 e2 ht ht2) (mk_t ht ht2) upd_same
    have hn14 := vi_ne (j := 14) hn14
    refine ⟨_, rfl, rfl, _, rfl, ?_⟩
    refine ite2 (fun hi => ?_) (fun hn15 => ?_)
    · have hi := vi_eq (j := 15) hi
      subst hi
      refine ⟨_, rfl, l, _, _, v, rfl, rfl, hS, at_of rfl rfl, _, rfl, l, _, _, y, rfl, rfl, hS, at_of rfl rfl, _, rfl, l, _, _, z, rfl, rfl, hS, at_of rfl rfl, (by show 3 ≤ 1000; decide), fun e he => ⟨e, [v, y, z], rfl, rfl, upd_same, fun dx H1 hd hne e1 e2 kp => ⟨rfl, ?_⟩⟩⟩
      refine ⟨_, rfl, _, rfl, e, C 15, dx, _, v, rfl, Es.e15.xf, Es.e15.no _ (by simp), e1, e2, (by kernel_rfl), _, rfl, e, C 15, dx, _, y, rfl, Es.e15.xf, Es.e15.no _ (by simp), e1, e2, (by kernel_rfl), _, rfl, e, C 15, dx, _, z, rfl, Es.e15.xf, Es.e15.no _ (by simp), e1, e2, (by kernel_rfl), (by show 3 ≤ sizeLine; decide), fun t ht => ⟨(by show 2 ≤ sizeLine; decide), fun t2 ht2 => ?_⟩⟩
      exact q e t t2 _ (mk_same he hd hne kp ht ht2) (mk_ev hd hne e1 e2 ht ht2) (mk_t ht ht2) upd_same
    have hn15 := vi_ne (j := 15) hn15
    refine ⟨_, rfl, rfl, _, rfl, ?_⟩
    refine ite2 (fun hi => ?_) (fun hn16 => ?_)
    · have hi := vi_eq (j := 16) hi
      subst hi
      refine ⟨_, rfl, l, _, _, v, rfl, rfl, hS, at_of rfl rfl, _, rfl, l, _, _, y, rfl, rfl, hS, at_of rfl rfl, _, rfl, l, _, _, z, rfl, rfl, hS, at_of rfl rfl, (by show 3 ≤ 1000; decide), fun e he => ⟨e, [v, y, z], rfl, rfl, upd_same, fun dx H1 hd hne e1 e2 kp => ⟨rfl, ?_⟩⟩⟩
      refine ⟨_, rfl, _, rfl, e, C 16, dx, _, v, rfl, Es.e16.xf, Es.e16.no _ (by simp), e1, e2, (by kernel_rfl), _, rfl, e, C 16, dx, _, y, rfl, Es.e16.xf, Es.e16.no _ (by simp), e1, e2, (by kernel_rfl), _, rfl, e, C 16, dx, _, z, rfl, Es.e16.xf, Es.e16.no _ (by simp), e1, e2, (by kernel_rfl), (by show 3 ≤ sizeLine; decide), fun t ht => ⟨(by show 2 ≤ sizeLine; decide), fun t2 ht2 => ?_⟩⟩
      exact q e t t2 _ (mk_same he hd hne kp ht ht2) (mk_ev hd hne e1 e2 ht ht2) (mk_t ht ht2) upd_same
    have hn16 := vi_ne (j := 16) hn16
    refine ⟨_, rfl, rfl, _, rfl, ?_⟩
    refine ite2 (fun hi => ?_) (fun hn17 => ?_)
    · have hi := vi_eq (j := 17) hi
      subst hi
      refine fun e he => ⟨(by show 0 ≤ sizeLine; decide), fun t ht => ⟨(by show 2 ≤ sizeLine; decide), fun t2 ht2 => ?_⟩⟩
      have s1 : Same H (upd H e (ExO (.ref (C 17)) e)) := AL.Same.new he
      have s2 := AL.Same.new (o := .tup []) ht
      have s3 := AL.Same.new (o := .tup [.ref e, .ref t]) ht2
      exact q e t t2 _ ((s1.trans s2).trans s3) (.inr (s3 _ _ (s2 _ _ upd_same))) (s3 _ _ upd_same) upd_same
    have hn17 := vi_ne (j := 17) hn17
    obtain rfl : i = 18 := by omega
    refine fun e he => ⟨(by show 0 ≤ sizeLine; decide), fun t ht => ⟨(by show 2 ≤ sizeLine; decide), fun t2 ht2 => ?_⟩⟩
    have s1 : Same H (upd H e (ExO (.ref (C 18)) e)) := AL.Same.new he
    have s2 := AL.Same.new (o := .tup []) ht
    have s3 := AL.Same.new (o := .tup [.ref e, .ref t]) ht2
    exact q e t t2 _ ((s1.trans s2).trans s3) (.inr (s3 _ _ (s2 _ _ upd_same))) (s3 _ _ upd_same) upd_same
abbrev st_law_kinds : Stmt := top 30
theorem sc_law_kinds : FnScope ["_law_e", "_law_found"] ["_law_e"] (defScope st_law_kinds) := ⟨rfl, rfl, rfl, by decide +kernel, rfl, by decide +kernel, by decide +kernel⟩
theorem ok_law_kinds (B : Blt mg) {C fI : Nat → Addr} {fdI : Nat → FuncData} {CS : Addr} (Es : Errs K mg C fI fdI CS) {f_law_kinds : Addr} {fd_law_kinds : FuncData} (D_law_kinds : DefAt K mg "_law_kinds" st_law_kinds ["_law_e"] f_law_kinds fd_law_kinds) : FnOk P w K mg base CX0 1 f_law_kinds fd_law_kinds ["_law_e"] (spKinds C) := by
  refine D_law_kinds.F.ok sc_law_kinds (fun vs H Q E h => ?_) (fun cdv A outer s H vs Q E hr h => ?_)
  · obtain ⟨e, i, rfl, _⟩ := h; rfl
  · have hu := hu_of hr
    refine ⟨_, (pss_cons (ps_set (i := 1) sc_law_kinds.nd rfl (Or.inl rfl) (pe_lst (pa_cons (pe_callB call_isV (by rfl) B.isinstance_ (by decide +kernel) (pa_cons (pv 0) (pa_cons (pe_glob (v := .ref (C 0)) rfl Es.e0.m rfl) pa_nil))) (pa_cons (pe_callB call_isV (by rfl) B.isinstance_ (by decide +kernel) (pa_cons (pv 0) (pa_cons (pe_glob (v := .ref (C 1)) rfl Es.e1.m rfl) pa_nil))) (pa_cons (pe_callB call_isV (by rfl) B.isinstance_ (by decide +kernel) (pa_cons (pv 0) (pa_cons (pe_glob (v := .ref (C 2)) rfl Es.e2.m rfl) pa_nil))) (pa_cons (pe_callB call_isV (by rfl) B.isinstance_ (by decide +kernel) (pa_cons (pv 0) (pa_cons (pe_glob (v := .ref (C 3)) rfl Es.e3.m rfl) pa_nil))) pa_nil))))))
    (pss_cons (ps_set (i := 1) sc_law_kinds.nd rfl (Or.inl rfl) (pe_op op_cat (pv 1) (pe_lst (pa_cons (pe_callB call_isV (by rfl) B.isinstance_ (by decide +kernel) (pa_cons (pv 0) (pa_cons (pe_glob (v := .ref (C 4)) rfl Es.e4.m rfl) pa_nil))) (pa_cons (pe_callB call_isV (by rfl) B.isinstance_ (by decide +kernel) (pa_cons (pv 0) (pa_cons (pe_glob (v := .ref (C 5)) rfl Es.e5.m rfl) pa_nil))) (pa_cons (pe_callB call_isV (by rfl) B.isinstance_ (by decide +kernel) (pa_cons (pv 0) (pa_cons (pe_glob (v := .ref (C 6)) rfl Es.e6.m rfl) pa_nil))) (pa_cons (pe_callB call_isV (by rfl) B.isinstance_ (by decide +kernel) (pa_cons (pv 0) (pa_cons (pe_glob (v := .ref (C 7)) rfl Es.e7.m rfl) pa_nil))) pa_nil)))))))
    (pss_cons (ps_set (i := 1) sc_law_kinds.nd rfl (Or.inl rfl) (pe_op op_cat (pv 1) (pe_lst (pa_cons (pe_callB call_isV (by rfl) B.isinstance_ (by decide +kernel) (pa_cons (pv 0) (pa_cons (pe_glob (v := .ref (C 8)) rfl Es.e8.m rfl) pa_nil))) (pa_cons (pe_callB call_isV (by rfl) B.isinstance_ (by decide +kernel) (pa_cons (pv 0) (pa_cons (pe_glob (v := .ref (C 9)) rfl Es.e9.m rfl) pa_nil))) (pa_cons (pe_callB call_isV (by rfl) B.isinstance_ (by decide +kernel) (pa_cons (pv 0) (pa_cons (pe_glob (v := .ref (C 10)) rfl Es.e10.m rfl) pa_nil))) (pa_cons (pe_callB call_isV (by rfl) B.isinstance_ (by decide +kernel) (pa_cons (pv 0) (pa_cons (pe_glob (v := .ref (C 11)) rfl Es.e11.m rfl) pa_nil))) pa_nil)))))))
    (pss_cons (ps_set (i := 1) sc_law_kinds.nd rfl (Or.inl rfl) (pe_op op_cat (pv 1) (pe_lst (pa_cons (pe_callB call_isV (by rfl) B.isinstance_ (by decide +kernel) (pa_cons (pv 0) (pa_cons (pe_glob (v := .ref (C 12)) rfl Es.e12.m rfl) pa_nil))) (pa_cons (pe_callB call_isV (by rfl) B.isinstance_ (by decide +kernel) (pa_cons (pv 0) (pa_cons (pe_glob (v := .ref (C 13)) rfl Es.e13.m rfl) pa_nil))) (pa_cons (pe_callB call_isV (by rfl) B.isinstance_ (by decide +kernel) (pa_cons (pv 0) (pa_cons (pe_glob (v := .ref (C 14)) rfl Es.e14.m rfl) pa_nil))) (pa_cons (pe_callB call_isV (by rfl) B.isinstance_ (by decide +kernel) (pa_cons (pv 0) (pa_cons (pe_glob (v := .ref (C 15)) rfl Es.e15.m rfl) pa_nil))) pa_nil)))))))
    (pss_one (ps_ret (pe_op op_cat (pv 1) (pe_lst (pa_cons (pe_callB call_isV (by rfl) B.isinstance_ (by decide +kernel) (pa_cons (pv 0) (pa_cons (pe_glob (v := .ref (C 16)) rfl Es.e16.m rfl) pa_nil))) (pa_cons (pe_callB call_isV (by rfl) B.isinstance_ (by decide +kernel) (pa_cons (pv 0) (pa_cons (pe_glob (v := .ref (C 17)) rfl Es.e17.m rfl) pa_nil))) (pa_cons (pe_callB call_isV (by rfl) B.isinstance_ (by decide +kernel) (pa_cons (pv 0) (pa_cons (pe_glob (v := .ref (C 18)) rfl Es.e18.m rfl) pa_nil))) pa_nil))))))))))), ?_⟩
    obtain ⟨e, i, rfl, hi, ev, q⟩ := h
    have s0 : Same H H := Same.refl H
    refine ⟨_, rfl, e, C i, .ref (C 0), .ref (C 0), _, rfl, Es.exc i hi, ev.same s0, ClsV.own _, Es.kit i hi 0 (by decide), _, rfl, e, C i, .ref (C 1), .ref (C 1), _, rfl, Es.exc i hi, ev.same s0, ClsV.own _, Es.kit i hi 1 (by decide), _, rfl, e, C i, .ref (C 2), .ref (C 2), _, rfl, Es.exc i hi, ev.same s0, ClsV.own _, Es.kit i hi 2 (by decide), _, rfl, e, C i, .ref (C 3), .ref (C 3), _, rfl, Es.exc i hi, ev.same s0, ClsV.own _, Es.kit i hi 3 (by decide), (by show 4 ≤ sizeLine; decide), fun l0 h0 => ?_⟩
    have s2 := s0.trans (AL.Same.new (o := .lst [V.bl (decide (0 = i)), V.bl (decide (1 = i)), V.bl (decide (2 = i)), V.bl (decide (3 = i))]) h0)
    refine ⟨_, rfl, _, rfl, e, C i, .ref (C 4), .ref (C 4), _, rfl, Es.exc i hi, ev.same s2, ClsV.own _, Es.kit i hi 4 (by decide), _, rfl, e, C i, .ref (C 5), .ref (C 5), _, rfl, Es.exc i hi, ev.same s2, ClsV.own _, Es.kit i hi 5 (by decide), _, rfl, e, C i, .ref (C 6), .ref (C 6), _, rfl, Es.exc i hi, ev.same s2, ClsV.own _, Es.kit i hi 6 (by decide), _, rfl, e, C i, .ref (C 7), .ref (C 7), _, rfl, Es.exc i hi, ev.same s2, ClsV.own _, Es.kit i hi 7 (by decide), (by show 4 ≤ sizeLine; decide), fun m1 g1 => ?_⟩
    have t1 := AL.Same.new (o := .lst [V.bl (decide (4 = i)), V.bl (decide (5 = i)), V.bl (decide (6 = i)), V.bl (decide (7 = i))]) g1
    refine ⟨l0, m1, _, _, rfl, rfl, t1 _ _ upd_same, upd_same, (by show 8 ≤ sizeLine; decide), fun l1 h1 => ?_⟩
    have s4 := (s2.trans t1).trans (AL.Same.new (o := .lst ([V.bl (decide (0 = i)), V.bl (decide (1 = i)), V.bl (decide (2 = i)), V.bl (decide (3 = i))] ++ [V.bl (decide (4 = i)), V.bl (decide (5 = i)), V.bl (decide (6 = i)), V.bl (decide (7 = i))])) h1)
    refine ⟨_, rfl, _, rfl, e, C i, .ref (C 8), .ref (C 8), _, rfl, Es.exc i hi, ev.same s4, ClsV.own _, Es.kit i hi 8 (by decide), _, rfl, e, C i, .ref (C 9), .ref (C 9), _, rfl, Es.exc i hi, ev.same s4, ClsV.own _, Es.kit i hi 9 (by decide), _, rfl, e, C i, .ref (C 10), .ref (C 10), _, rfl, Es.exc i hi, ev.same s4, ClsV.own _, Es.kit i hi 10 (by decide), _, rfl, e, C i, .ref (C 11), .ref (C 11), _, rfl, Es.exc i hi, ev.same s4, ClsV.own _, Es.kit i hi 11 (by decide), (by show 4 ≤ sizeLine; decide), fun m2 g2 => ?_⟩
    have t2 := AL.Same.new (o := .lst [V.bl (decide (8 = i)), V.bl (decide (9 = i)), V.bl (decide (10 = i)), V.bl (decide (11 = i))]) g2
    refine ⟨l1, m2, _, _, rfl, rfl, t2 _ _ upd_same, upd_same, (by show 12 ≤ sizeLine; decide), fun l2 h2 => ?_⟩
    have s6 := (s4.trans t2).trans (AL.Same.new (o := .lst (([V.bl (decide (0 = i)), V.bl (decide (1 = i)), V.bl (decide (2 = i)), V.bl (decide (3 = i))] ++ [V.bl (decide (4 = i)), V.bl (decide (5 = i)), V.bl (decide (6 = i)), V.bl (decide (7 = i))]) ++ [V.bl (decide (8 = i)), V.bl (decide (9 = i)), V.bl (decide (10 = i)), V.bl (decide (11 = i))])) h2)
    refine ⟨_, rfl, _, rfl, e, C i, .ref (C 12), .ref (C 12), _, rfl, Es.exc i hi, ev.same s6, ClsV.own _, Es.kit i hi 12 (by decide), _, rfl, e, C i, .ref (C 13), .ref (C 13), _, rfl, Es.exc i hi, ev.same s6, ClsV.own _, Es.kit i hi 13 (by decide), _, rfl, e, C i, .ref (C 14), .ref (C 14), _, rfl, Es.exc i hi, ev.same s6, ClsV.own _, Es.kit i hi 14 (by decide), _, rfl, e, C i, .ref (C 15), .ref (C 15), _, rfl, Es.exc i hi, ev.same s6, ClsV.own _, Es.kit i hi 15 (by decide), (by show 4 ≤ sizeLine; decide), fun m3 g3 => ?_⟩
    have t3 := AL.Same.new (o := .lst [V.bl (decide (12 = i)), V.bl (decide (13 = i)), V.bl (decide (14 = i)), V.bl (decide (15 = i))]) g3
    refine ⟨l2, m3, _, _, rfl, rfl, t3 _ _ upd_same, upd_same, (by show 16 ≤ sizeLine; decide), fun l3 h3 => ?_⟩
    have s8 := (s6.trans t3).trans (AL.Same.new (o := .lst ((([V.bl (decide (0 = i)), V.bl (decide (1 = i)), V.bl (decide (2 = i)), V.bl (decide (3 = i))] ++ [V.bl (decide (4 = i)), V.bl (decide (5 = i)), V.bl (decide (6 = i)), V.bl (decide (7 = i))]) ++ [V.bl (decide (8 = i)), V.bl (decide (9 = i)), V.bl (decide (10 = i)), V.bl (decide (11 = i))]) ++ [V.bl (decide (12 = i)), V.bl (decide (13 = i)), V.bl (decide (14 = i)), V.bl (decide (15 = i))])) h3)
    refine ⟨_, rfl, _, rfl, e, C i, .ref (C 16), .ref (C 16), _, rfl, Es.exc i hi, ev.same s8, ClsV.own _, Es.kit i hi 16 (by decide), _, rfl, e, C i, .ref (C 17), .ref (C 17), _, rfl, Es.exc i hi, ev.same s8, ClsV.own _, Es.kit i hi 17 (by decide), _, rfl, e, C i, .ref (C 18), .ref (C 18), _, rfl, Es.exc i hi, ev.same s8, ClsV.own _, Es.kit i hi 18 (by decide), (by show 3 ≤ sizeLine; decide), fun m4 g4 => ?_⟩
    have t4 := AL.Same.new (o := .lst [V.bl (decide (16 = i)), V.bl (decide (17 = i)), V.bl (decide (18 = i))]) g4
    refine ⟨l3, m4, _, _, rfl, rfl, t4 _ _ upd_same, upd_same, (by show 19 ≤ sizeLine; decide), fun l4 h4 => ?_⟩
    exact q _ _ ((s8.trans t4).trans (AL.Same.new h4)) upd_same
end
end AL
set_option Elab.async false
set_option maxRecDepth 100000
namespace AL
open PySem L2

/-- law's: a list of at most 63 ints is handed in, True comes out -/
def spLaw (K : PySem.W.Frag) : Sp := fun vs H Q _ => ∃ (a : Addr) (ns : List Int), vs = [.ref a] ∧ SqL K H a (ns.map V.int) ∧ ns.length ≤ 63 ∧ ∀ H', Q (.bl true) H'
section
variable {P : Program} {w : World} {K : PySem.W.Frag} {mg : Str → Option Value} {base : Heap}
set_option maxHeartbeats 1000000
abbrev stlaw : Stmt := top 31
theorem sclaw : FnScope ["_law_script", "_law_pen_here", "_law_kind", "_law_menu", "_law_values", "_law_e", "_law_fields", "_law_k"] ["_law_script"] (defScope stlaw) := ⟨rfl, rfl, rfl, by decide +kernel, rfl, by decide +kernel, by decide +kernel⟩
theorem oklaw (B : Blt mg) {C fI : Nat → Addr} {fdI : Nat → FuncData} {CS : Addr} (Es : Errs K mg C fI fdI CS) {f_law_draw : Addr} {fd_law_draw : FuncData} (D_law_draw : DefAt K mg "_law_draw" st_law_draw ["_law_pen_here", "_law_many"] f_law_draw fd_law_draw) {f_law_pick : Addr} {fd_law_pick : FuncData} (D_law_pick : DefAt K mg "_law_pick" st_law_pick ["_law_pen_here", "_law_some"] f_law_pick fd_law_pick) {f_law_big : Addr} {fd_law_big : FuncData} (D_law_big : DefAt K mg "_law_big" st_law_big ["_law_pen_here", "_law_figures"] f_law_big fd_law_big) {f_law_kinds : Addr} {fd_law_kinds : FuncData} (D_law_kinds : DefAt K mg "_law_kinds" st_law_kinds ["_law_e"] f_law_kinds fd_law_kinds) {f_law_of_one : Addr} {fd_law_of_one : FuncData} (D_law_of_one : DefAt K mg "_law_of_one" st_law_of_one ["_law_kind", "_law_a"] f_law_of_one fd_law_of_one) {f_law_of_two : Addr} {fd_law_of_two : FuncData} (D_law_of_two : DefAt K mg "_law_of_two" st_law_of_two ["_law_kind", "_law_a", "_law_b"] f_law_of_two fd_law_of_two) {f_law_made : Addr} {fd_law_made : FuncData} (D_law_made : DefAt K mg "_law_made" st_law_made ["_law_kind", "_law_values"] f_law_made fd_law_made) {f_law_name : Addr} {fd_law_name : FuncData} (D_law_name : DefAt K mg "_law_name" st_law_name ["_law_pen_here", "_law_used"] f_law_name fd_law_name) {f_law_pen : Addr} {fd_law_pen : FuncData} (D_law_pen : DefAt K mg "_law_pen" st_law_pen ["_law_script"] f_law_pen fd_law_pen) {flaw : Addr} {fdlaw : FuncData} (Dlaw : DefAt K mg "law" stlaw ["_law_script"] flaw fdlaw) : FnG P w K mg base CX0 5 flaw fdlaw ["_law_script"] (spLaw K) := by
  have OK_law_big : FnOk P w K mg base CX0 3 f_law_big fd_law_big ["_law_pen_here", "_law_figures"] spBig := ok_law_big B  D_law_draw D_law_pick D_law_big
  have OK_law_draw : FnOk P w K mg base CX0 1 f_law_draw fd_law_draw ["_law_pen_here", "_law_many"] spDraw := ok_law_draw B  D_law_draw
  have OK_law_kinds : FnOk P w K mg base CX0 1 f_law_kinds fd_law_kinds ["_law_e"] (spKinds C) := ok_law_kinds B Es D_law_kinds
  have OK_law_made : FnOk P w K mg base CX0 4 f_law_made fd_law_made ["_law_kind", "_law_values"] (spMade K C) := ok_law_made B Es D_law_of_one D_law_of_two D_law_made
  have OK_law_name : FnOk P w K mg base CX0 3 f_law_name fd_law_name ["_law_pen_here", "_law_used"] spName0 := ok_law_name B  D_law_draw D_law_pick D_law_name
  have OK_law_pen : FnOk P w K mg base CX0 1 f_law_pen fd_law_pen ["_law_script"] (spPen K) := ok_law_pen B  D_law_pen
  have OK_law_pick : FnOk P w K mg base CX0 2 f_law_pick fd_law_pick ["_law_pen_here", "_law_some"] (spPick K) := ok_law_pick B  D_law_draw D_law_pick
  refine okG Dlaw.F sclaw (fun vs H Q E h => ?_) (fun cdv A outer s H vs Q E gd hr h => ?_)
  · obtain ⟨a, ns, rfl, _⟩ := h; rfl
  · have hu := hu_of hr
    refine ⟨_, (pss_cons (ps_set (i := 1) sclaw.nd rfl (Or.inl rfl) (pe_call OK_law_pen (hr.mono (by decide)) rfl D_law_pen.m D_law_pen.F.kp D_law_pen.b .nil pass0 (pa_cons (pv 0) pa_nil)))
    (pss_cons (ps_for PassesOwn.never rfl (pi_range1 rfl B.range_ (pa_cons pe_int pa_nil)) (pg_name (i := 2) sclaw.nd rfl (Or.inr rfl))
      (pss_cons (ps_set (i := 3) sclaw.nd rfl (Or.inl rfl) (pe_lst (pa_cons pe_non (pa_cons pe_bl (pa_cons (pe_call OK_law_big (hr.mono (by decide)) rfl D_law_big.m D_law_big.F.kp D_law_big.b .nil pass0 (pa_cons (pv 1) (pa_cons pe_int pa_nil))) (pa_cons pe_str (pa_cons (pe_call OK_law_name (hr.mono (by decide)) rfl D_law_name.m D_law_name.F.kp D_law_name.b .nil pass0 (pa_cons (pv 1) (pa_cons (pe_lst pa_nil) pa_nil))) (pa_cons (pe_tup (pa_cons pe_int (pa_cons pe_int pa_nil))) (pa_cons (pe_lst (pa_cons pe_int pa_nil)) (pa_cons (pe_op op_sub (pe_un un_neg pe_int) (pe_call OK_law_draw (hr.mono (by decide)) rfl D_law_draw.m D_law_draw.F.kp D_law_draw.b .nil pass0 (pa_cons (pv 1) (pa_cons pe_int pa_nil)))) (pa_cons (pe_tup (pa_cons pe_str (pa_cons pe_str pa_nil))) pa_nil)))))))))))
    (pss_cons (ps_set (i := 4) sclaw.nd rfl (Or.inl rfl) (pe_lst (pa_cons (pe_call OK_law_pick (hr.mono (by decide)) rfl D_law_pick.m D_law_pick.F.kp D_law_pick.b .nil pass0 (pa_cons (pv 1) (pa_cons (pv 3) pa_nil))) (pa_cons (pe_call OK_law_pick (hr.mono (by decide)) rfl D_law_pick.m D_law_pick.F.kp D_law_pick.b .nil pass0 (pa_cons (pv 1) (pa_cons (pv 3) pa_nil))) (pa_cons (pe_call OK_law_pick (hr.mono (by decide)) rfl D_law_pick.m D_law_pick.F.kp D_law_pick.b .nil pass0 (pa_cons (pv 1) (pa_cons (pv 3) pa_nil))) pa_nil)))))
    (pss_cons (ps_asg (pe_call OK_law_made (hr.mono (by decide)) rfl D_law_made.m D_law_made.F.kp D_law_made.b .nil pass0 (pa_cons (pv 2) (pa_cons (pv 4) pa_nil))) (pg_tup rfl (pgs_cons (pg_name (i := 5) sclaw.nd rfl (Or.inl rfl)) (pgs_cons (pg_name (i := 6) sclaw.nd rfl (Or.inl rfl)) pgs_nil))))
    (pss_cons (ps_if (pt_cmpR op_ne (pe_callB (call_reprD gd hr.units) (by rfl) B.repr_ (by decide +kernel) (pa_cons (pv 6) pa_nil)) (pe_callB (call_reprD gd hr.units) (by rfl) B.repr_ (by decide +kernel) (pa_cons (pe_callTy call_tuple_of (by rfl) B.tuple_ (by decide +kernel) (pa_cons (pe_slice sl_list (pv 4) po_none (po_some (pe_callB call_len_seq (by rfl) B.len_ (by decide +kernel) (pa_cons (pv 6) pa_nil)))) pa_nil)) pa_nil)) (nomark _)) (pss_one (ps_ret pe_bl)) pss_nil)
    (pss_cons (ps_if (PW.pt (pw_or (pt_not (pt_val (pe_callB call_isV (by rfl) B.isinstance_ (by decide +kernel) (pa_cons (pv 5) (pa_cons (pe_glob (v := .ref CS) rfl Es.mS rfl) pa_nil))))) (pw_or1 (pt_not (pt_val (pe_callB call_isV (by rfl) B.isinstance_ (by decide +kernel) (pa_cons (pv 5) (pa_cons (pe_bltn (v := .ty "ValueError") (by rfl) Es.nV PyProof.Rows.Boot.«ValueError» rfl) pa_nil)))))))) (pss_one (ps_ret pe_bl)) pss_nil)
    (pss_one (ps_if (pt_cmpR (op_neD hr.units) (pe_call OK_law_kinds (hr.mono (by decide)) rfl D_law_kinds.m D_law_kinds.F.kp D_law_kinds.b .nil pass0 (pa_cons (pv 5) pa_nil)) (pe_lc (own := [("_law_k", 7)]) (g := gName 7) (tt := tYes) rfl sclaw.nd (pi_range1 rfl B.range_ (pa_cons pe_int pa_nil)) (blkOk_by (own := [("_law_k", 7)]) (N := ["_law_script", "_law_pen_here", "_law_kind", "_law_menu", "_law_values", "_law_e", "_law_fields", "_law_k"]) (sc := defScope stlaw) (by decide +kernel)) (fun _ _ _ _ _ => pg_name (i := 7) sclaw.nd rfl (Or.inl rfl)) (fun _ _ _ _ _ => pts_nil) (fun _ _ _ _ _ => (pe_cmpR op_eq (pv 7) (pv 2) (nomark _)))) (nomark _)) (pss_one (ps_ret pe_bl)) pss_nil))))))))
    (pss_one (ps_ret pe_bl)))), ?_⟩
    obtain ⟨a, ns, rfl, hS, hN, q⟩ := h
    refine ⟨_, rfl, a, ns, rfl, hS, fun p c H1 hp hc hpc P0 s1 => ?_⟩
    refine ⟨_, rfl, by decide, by decide, for_range (lo := 0) (n := 19) (fun i σ H' => ∃ v3 v4 v5 v6 v7 v8 : Option V, σ = [some (.ref a), some (.ref p), v3, v4, v5, v6, v7, v8] ∧ Pen H' p c (1000 * i)) ⟨none, none, none, none, none, none, rfl, P0⟩ ?_ ?_⟩
    · rintro i σ H2 hi ⟨v3, v4, v5, v6, v7, v8, rfl, P⟩
      -- the menu
      refine ⟨_, rfl, p, c, 1000 * i, 40, rfl, P, by omega, by decide, by decide, fun r H3 hr3 P3 k3 => ?_⟩
      refine ⟨_, rfl, (by show 0 ≤ sizeLine; decide), fun u hu3 => ?_⟩
      have hpu : p ≠ u := fun e => by
        obtain ⟨kvs, z⟩ := P3.dict
        rw [e, hu3] at z; cases z
      have hcu : u ≠ c := fun e => by
        obtain ⟨_, _, _, _, _, _, z, _⟩ := P3.ex
        rw [← e, hu3] at z; cases z
      refine ⟨p, c, u, 1000 * i + 200, rfl, P3.same (AL.Same.new hu3), hcu, by omega, upd_same, fun z H4 hz hz7 P4 k4 => ?_⟩
      refine ⟨(by show 2 ≤ sizeLine; decide), fun t1 ht1 => ⟨(by show 1 ≤ sizeLine; decide), fun l3 hl3 => ?_⟩⟩
      have n5 := AL.Same.new (o := .tup [.int 1, .int 2]) ht1
      have n6 := AL.Same.new (o := .lst [.int 3]) hl3
      have P6 := (P4.same n5).same n6
      refine ⟨_, rfl, _, rfl, p, c, 1000 * i + 200 + 200, _, rfl, P6, by omega, by decide, by decide, fun d H7 hd0 hd1 P7 k7 => ?_⟩
      refine ⟨_, _, rfl, rfl, (by show 2 ≤ sizeLine; decide), fun t2 ht2 => ?_⟩
      refine ⟨(by show 9 ≤ sizeLine; decide), fun M hM => ?_⟩
      have n8 := AL.Same.new (o := .tup [.str "b", .str "c"]) ht2
      have n9 := AL.Same.new (o := .lst [.non, .bl true, .int (r : Int), .str "", .str z, .ref t1, .ref l3, .int (-1 - d), .ref t2]) hM
      have P9 := (P7.same n8).same n9
      have keepT : ∀ {x : Addr} {o : HO}, (∀ l, o ≠ .dK l) → upd (upd H4 t1 (.tup [.int 1, .int 2])) l3 (.lst [.int 3]) x = some o → H7 x = some o := fun hu e => k7.at P6 e hu
      have menu : ∀ x ∈ ([.non, .bl true, .int (r : Int), .str "", .str z, .ref t1, .ref l3, .int (-1 - d), .ref t2] : List V), Datum K (upd (upd H7 t2 (.tup [.str "b", .str "c"])) M (.lst [.non, .bl true, .int (r : Int), .str "", .str z, .ref t1, .ref l3, .int (-1 - d), .ref t2])) x := by
        intro x hx
        simp only [List.mem_cons, List.not_mem_nil, or_false] at hx
        have ok2 : ∀ (e1 e2 : PyData), OkD (.tuple [e1, e2]) ∨ True := fun _ _ => .inr trivial
        rcases hx with rfl | rfl | rfl | rfl | rfl | rfl | rfl | rfl | rfl
        · exact datum_non
        · exact datum_bl true
        · exact datum_int (by rw [Int.natAbs_natCast]; exact Nat.lt_of_lt_of_le hr3 (Nat.pow_le_pow_right (by decide) (by decide)))
        · exact datum_str (by decide +kernel) (by decide +kernel)
        · exact datum_str (by omega) hz7
        · refine ⟨.tuple [.int 1, .int 2], .tup (SqT.of (n9 _ _ (n8 _ _ (keepT (fun l z => by cases z) (n6 _ _ upd_same))))) (.cons (.int 1) (.cons (.int 2) .nil)), by decide +kernel, by decide +kernel, by decide +kernel, by decide +kernel⟩
        · refine ⟨.list [.int 3], .lst (SqL.of (n9 _ _ (n8 _ _ (keepT (fun l z => by cases z) upd_same)))) (.cons (.int 3) .nil), by decide +kernel, by decide +kernel, by decide +kernel, by decide +kernel⟩
        · refine datum_int ?_
          have : (-1 - d).natAbs ≤ 10 := by omega
          exact Nat.lt_of_le_of_lt this (by decide +kernel)
        · refine ⟨.tuple [.str "b", .str "c"], .tup (SqT.of (n9 _ _ upd_same)) (.cons (.str _) (.cons (.str _) .nil)), by decide +kernel, by decide +kernel, by decide +kernel, by decide +kernel⟩
      have hM9 := upd_same (H := upd H7 t2 (.tup [.str "b", .str "c"])) (a := M) (o := .lst [.non, .bl true, .int (r : Int), .str "", .str z, .ref t1, .ref l3, .int (-1 - d), .ref t2])
      generalize hm : ([.non, .bl true, .int (r : Int), .str "", .str z, .ref t1, .ref l3, .int (-1 - d), .ref t2] : List V) = menuL at menu hM9 n9 P9 ⊢
      have hml : menuL.length = 9 := by rw [← hm]; rfl
      generalize hH9 : upd (upd H7 t2 (.tup [.str "b", .str "c"])) M (.lst menuL) = H9 at menu hM9 n9 P9 ⊢
      -- three picks
      refine ⟨_, rfl, _, rfl, p, c, M, 1000 * i + 200 + 200 + 1, _, rfl, P9, by omega, SqL.of hM9, by omega, by omega, fun j1 x1 H10 hx1 P10 k10 => ?_⟩
      have hM10 := k10.seqL (K := K) P9 (SqL.of hM9)
      refine ⟨_, rfl, _, rfl, p, c, M, _, _, rfl, P10, by omega, hM10, by omega, by omega, fun j2 x2 H11 hx2 P11 k11 => ?_⟩
      have hM11 := k11.seqL P10 hM10
      refine ⟨_, rfl, _, rfl, p, c, M, _, _, rfl, P11, by omega, hM11, by omega, by omega, fun j3 x3 H12 hx3 P12 k12 => ?_⟩
      have d1 := (((menu _ (List.mem_of_getElem? hx1)).keep k10 P9).keep k11 P10).keep k12 P11
      have d2 := (((menu _ (List.mem_of_getElem? hx2)).keep k10 P9).keep k11 P10).keep k12 P11
      have d3 := (((menu _ (List.mem_of_getElem? hx3)).keep k10 P9).keep k11 P10).keep k12 P11
      clear menu hM9 hM10 hM11 hx1 hx2 hx3
      refine ⟨(by show 3 ≤ sizeLine; decide), fun W hW => ?_⟩
      have n13 := AL.Same.new (o := .lst [x1, x2, x3]) hW
      have e0 : (0 : Int) + (i : Int) = (i : Int) := Int.zero_add _
      refine ⟨_, rfl, _, rfl, i, W, x1, x2, x3, (by rw [e0]; rfl), hi, SqL.of upd_same, fun e t t2' H14 s14 ev ht ht2' => ?_⟩
      refine ⟨t2', _, rfl, SqT.of ht2', rfl, _, _, rfl, _, _, rfl, rfl, ?_⟩
      have P14 := (P12.same n13).same s14
      have hW14 := s14 _ _ (upd_same (H := H12) (a := W) (o := .lst [x1, x2, x3]))
      obtain ⟨a1, da1, oa1⟩ := (d1.same n13).same s14
      obtain ⟨a2, da2, oa2⟩ := (d2.same n13).same s14
      obtain ⟨a3, da3, oa3⟩ := (d3.same n13).same s14
      have nf3 : nf i ≤ 3 := by unfold nf; (repeat (first | omega | split)) <;> omega
      have dpA : ∀ {H' : Hp}, Same H14 H' → DpAll K H' (([x1, x2, x3] : List V).take (nf i)) (([a1, a2, a3] : List PyData).take (nf i)) := by
        intro H' s
        have b1 := dp_same s da1
        have b2 := dp_same s da2
        have b3 := dp_same s da3
        match nf i, nf3 with
        | 0, _ => exact .nil
        | 1, _ => exact .cons b1 .nil
        | 2, _ => exact .cons b1 (.cons b2 .nil)
        | 3, _ => exact .cons b1 (.cons b2 (.cons b3 .nil))
      obtain ⟨w1, w2, w3, w4⟩ := okD_tup (([a1, a2, a3] : List PyData).take (nf i)) (by rw [List.length_take]; exact Nat.min_le_right _ _) (fun d hd => by
        have := List.mem_of_mem_take hd
        simp only [List.mem_cons, List.not_mem_nil, or_false] at this
        rcases this with rfl | rfl | rfl
        · exact oa1
        · exact oa2
        · exact oa3)
      -- repr(fields) != repr(tuple(values[:len(fields)]))
      refine ⟨_, rfl, t, _, rfl, .tup (SqT.of ht) (dpA (Same.refl _)), w1, w2, w3, w4, ?_⟩
      refine ⟨_, rfl, _, rfl, t, _, rfl, .inr (SqT.of ht), _, rfl, W, _, rfl, SqL.of hW14, fun s1' hs1 => ?_⟩
      have hlen : (([x1, x2, x3] : List V).take (nf i)).length ≤ ([x1, x2, x3] : List V).length := List.length_take_le' _ _
      have n15 := AL.Same.new (o := .lst (cutV [x1, x2, x3] none (some ((([x1, x2, x3] : List V).take (nf i)).length : Int)))) hs1
      refine ⟨s1', _, rfl, .inl ⟨SqL.of upd_same, fun s2' hs2 => ?_⟩⟩
      have n16 := AL.Same.new (o := .tup (cutV [x1, x2, x3] none (some ((([x1, x2, x3] : List V).take (nf i)).length : Int)))) hs2
      have ecut : cutV [x1, x2, x3] none (some ((([x1, x2, x3] : List V).take (nf i)).length : Int)) = ([x1, x2, x3] : List V).take (nf i) := by
        rw [cut_take hlen, List.length_take, ← List.take_take, List.take_length]
      refine ⟨s2', _, rfl, .tup (SqT.of (by rw [ecut]; exact upd_same)) (dpA (n15.trans n16)), w1, w2, w3, w4, ?_⟩
      refine ⟨rfl, _, rfl, ?_⟩
      refine iteNS rfl ?_
      have s16 := n15.trans n16
      have ev16 := ev.same s16
      have P16 := P14.same s16
      -- isinstance
      refine ⟨_, rfl, e, C i, .ref CS, .ref CS, true, rfl, Es.exc i hi, ev16, ClsV.own _, Es.kS i hi, _, rfl, ?_⟩
      refine iteF ?_
      refine ⟨_, rfl, e, C i, .ty "ValueError", .type "ValueError", true, rfl, Es.exc i hi, ev16, ClsV.ty _, Es.kV i hi, _, rfl, ?_⟩
      refine iteF ?_
      -- kinds(e) != [..]
      refine ⟨_, rfl, e, i, rfl, hi, ev16, fun kl H17 s17 hkl => ?_⟩
      refine Evl.el_lcR1 (fun _ => true) (fun j => V.bl (decide (V.int (j : Int) = V.int (0 + (i : Int))))) (Evl.ea_cons Evl.ev_c Evl.ea_nil) ⟨by decide, by decide⟩ (fun x => rfl) (fun j H' _ _ H1' _ Q' q' => q' H1' (Evl.Ex.refl _)) (fun j H' _ _ _ => Evl.ev_op (Evl.ev_var rfl) (Evl.ev_var rfl) (Evl.rv_eq rfl)) _ (Evl.Ex.refl _) _ (fun pl H18 hpl e18 h18 => ?_)
      have egiven : Evl.given ((19 : Int)).toNat (fun _ => true) (fun j => V.bl (decide (V.int (j : Int) = V.int (0 + (i : Int))))) = (((List.range 19).map fun j => decide (j = i))).map V.bl := by
        have : ∀ j : Nat, decide (V.int (j : Int) = V.int (0 + (i : Int))) = decide (j = i) := fun j => by
          rw [e0]
          by_cases hj : j = i
          · subst hj; rw [decide_eq_true rfl, decide_eq_true rfl]
          · rw [decide_eq_false hj, decide_eq_false (fun z => hj (by injection z with z; omega))]
        simp only [this]
        rfl
      rw [egiven] at h18
      refine ⟨.list _, .list _, .lst (SqL.of (e18 _ _ hkl)) (dpAll_bl _), .lst (SqL.of h18) (dpAll_bl _), shaped_bl _, shaped_bl _, _, rfl, ?_⟩
      rw [SeqAt.eqv_refl _ (SeqAt.canLay_of_shaped (shaped_bl _))]
      refine iteF ?_
      exact ⟨_, _, _, _, _, _, rfl, ((P16.same s17).same e18).mono (by omega)⟩
    · rintro σ H2 ⟨v3, v4, v5, v6, v7, v8, rfl, P⟩
      exact q H2
end
end AL
set_option Elab.async false
set_option maxRecDepth 100000
namespace AL
open PySem L2

def kitTab (K : PySem.W.Frag) (cs : List Addr) (CS : Addr) : Bool := (List.range 19).all fun i => (List.range 19).all (fun j => decide (PySem.W.kitOne K (.ref (cs.getD i 0)) (.ref (cs.getD j 0)) = some (decide (j = i)))) &&
  (decide (PySem.W.kitOne K (.ref (cs.getD i 0)) (.ref CS) = some true) && decide (PySem.W.kitOne K (.ref (cs.getD i 0)) (.type "ValueError") = some true))
theorem kitTab_of {K : PySem.W.Frag} {cs : List Addr} {CS : Addr} (h : kitTab K cs CS = true) : (∀ i, i < 19 → ∀ j, j < 19 → PySem.W.kitOne K (.ref (cs.getD i 0)) (.ref (cs.getD j 0)) = some (decide (j = i))) ∧
    (∀ i, i < 19 → PySem.W.kitOne K (.ref (cs.getD i 0)) (.ref CS) = some true) ∧ ∀ i, i < 19 → PySem.W.kitOne K (.ref (cs.getD i 0)) (.type "ValueError") = some true := by
  unfold kitTab at h
  simp only [List.all_eq_true, Bool.and_eq_true, decide_eq_true_eq, List.mem_range] at h
  exact ⟨fun i hi => (h i hi).1, fun i hi => (h i hi).2.1, fun i hi => (h i hi).2.2⟩
theorem all_mk {l : PySem.W.OpenLaw} {w : World} {K : PySem.W.Frag} {h : Heap} {mg : Str → Option Value} {f_law_pen f_law_draw f_law_pick f_law_big f_law_name f_law_of_one f_law_of_two f_law_made f_law_kinds flaw C0 C1 C2 C3 C4 C5 C6 C7 C8 C9 C10 C11 C12 C13 C14 C15 C16 C17 C18 fI0 fI1 fI2 fI3 fI4 fI5 fI6 fI7 fI8 fI9 fI10 fI11 fI12 fI13 fI14 fI15 fI16 CS fa : Addr} (X : K.In h) (G : h.Ns mainGlobals mg) (hfa : mg "law" = some (.ref fa))
    {oc_law_pen kV_law_pen dc_law_pen pm_law_pen cd_law_pen ct_law_pen : Value} {od_law_pen an_law_pen : Option Addr} {sl_law_pen : Array (Option Value)}
    {oc_law_draw kV_law_draw dc_law_draw pm_law_draw cd_law_draw ct_law_draw : Value} {od_law_draw an_law_draw : Option Addr} {sl_law_draw : Array (Option Value)}
    {oc_law_pick kV_law_pick dc_law_pick pm_law_pick cd_law_pick ct_law_pick : Value} {od_law_pick an_law_pick : Option Addr} {sl_law_pick : Array (Option Value)}
    {oc_law_big kV_law_big dc_law_big pm_law_big cd_law_big ct_law_big : Value} {od_law_big an_law_big : Option Addr} {sl_law_big : Array (Option Value)}
    {oc_law_name kV_law_name dc_law_name pm_law_name cd_law_name ct_law_name : Value} {od_law_name an_law_name : Option Addr} {sl_law_name : Array (Option Value)}
    {oc_law_of_one kV_law_of_one dc_law_of_one pm_law_of_one cd_law_of_one ct_law_of_one : Value} {od_law_of_one an_law_of_one : Option Addr} {sl_law_of_one : Array (Option Value)}
    {oc_law_of_two kV_law_of_two dc_law_of_two pm_law_of_two cd_law_of_two ct_law_of_two : Value} {od_law_of_two an_law_of_two : Option Addr} {sl_law_of_two : Array (Option Value)}
    {oc_law_made kV_law_made dc_law_made pm_law_made cd_law_made ct_law_made : Value} {od_law_made an_law_made : Option Addr} {sl_law_made : Array (Option Value)}
    {oc_law_kinds kV_law_kinds dc_law_kinds pm_law_kinds cd_law_kinds ct_law_kinds : Value} {od_law_kinds an_law_kinds : Option Addr} {sl_law_kinds : Array (Option Value)}
    {oclaw kVlaw dclaw pmlaw cdlaw ctlaw : Value} {odlaw anlaw : Option Addr} {sllaw : Array (Option Value)}
    {nm0 qn0 : Str} {N0 : Addr} {bs0 bm0 : List Value} {sn0 : List Str} {sub0 : List Value} {ab0 : Bool} {col0 : Option Bool} {dd0 : Option Addr} {m00 m10 m20 m30 m50 : Option Value}
    {ocI0 kVI0 dcI0 pmI0 cdI0 ctI0 : Value} {odI0 anI0 : Option Addr} {slI0 : Array (Option Value)}
    {nm1 qn1 : Str} {N1 : Addr} {bs1 bm1 : List Value} {sn1 : List Str} {sub1 : List Value} {ab1 : Bool} {col1 : Option Bool} {dd1 : Option Addr} {m01 m11 m21 m31 m51 : Option Value}
    {ocI1 kVI1 dcI1 pmI1 cdI1 ctI1 : Value} {odI1 anI1 : Option Addr} {slI1 : Array (Option Value)}
    {nm2 qn2 : Str} {N2 : Addr} {bs2 bm2 : List Value} {sn2 : List Str} {sub2 : List Value} {ab2 : Bool} {col2 : Option Bool} {dd2 : Option Addr} {m02 m12 m22 m32 m52 : Option Value}
    {ocI2 kVI2 dcI2 pmI2 cdI2 ctI2 : Value} {odI2 anI2 : Option Addr} {slI2 : Array (Option Value)}
    {nm3 qn3 : Str} {N3 : Addr} {bs3 bm3 : List Value} {sn3 : List Str} {sub3 : List Value} {ab3 : Bool} {col3 : Option Bool} {dd3 : Option Addr} {m03 m13 m23 m33 m53 : Option Value}
    {ocI3 kVI3 dcI3 pmI3 cdI3 ctI3 : Value} {odI3 anI3 : Option Addr} {slI3 : Array (Option Value)}
    {nm4 qn4 : Str} {N4 : Addr} {bs4 bm4 : List Value} {sn4 : List Str} {sub4 : List Value} {ab4 : Bool} {col4 : Option Bool} {dd4 : Option Addr} {m04 m14 m24 m34 m54 : Option Value}
    {ocI4 kVI4 dcI4 pmI4 cdI4 ctI4 : Value} {odI4 anI4 : Option Addr} {slI4 : Array (Option Value)}
    {nm5 qn5 : Str} {N5 : Addr} {bs5 bm5 : List Value} {sn5 : List Str} {sub5 : List Value} {ab5 : Bool} {col5 : Option Bool} {dd5 : Option Addr} {m05 m15 m25 m35 m55 : Option Value}
    {ocI5 kVI5 dcI5 pmI5 cdI5 ctI5 : Value} {odI5 anI5 : Option Addr} {slI5 : Array (Option Value)}
    {nm6 qn6 : Str} {N6 : Addr} {bs6 bm6 : List Value} {sn6 : List Str} {sub6 : List Value} {ab6 : Bool} {col6 : Option Bool} {dd6 : Option Addr} {m06 m16 m26 m36 m56 : Option Value}
    {ocI6 kVI6 dcI6 pmI6 cdI6 ctI6 : Value} {odI6 anI6 : Option Addr} {slI6 : Array (Option Value)}
    {nm7 qn7 : Str} {N7 : Addr} {bs7 bm7 : List Value} {sn7 : List Str} {sub7 : List Value} {ab7 : Bool} {col7 : Option Bool} {dd7 : Option Addr} {m07 m17 m27 m37 m57 : Option Value}
    {ocI7 kVI7 dcI7 pmI7 cdI7 ctI7 : Value} {odI7 anI7 : Option Addr} {slI7 : Array (Option Value)}
    {nm8 qn8 : Str} {N8 : Addr} {bs8 bm8 : List Value} {sn8 : List Str} {sub8 : List Value} {ab8 : Bool} {col8 : Option Bool} {dd8 : Option Addr} {m08 m18 m28 m38 m58 : Option Value}
    {ocI8 kVI8 dcI8 pmI8 cdI8 ctI8 : Value} {odI8 anI8 : Option Addr} {slI8 : Array (Option Value)}
    {nm9 qn9 : Str} {N9 : Addr} {bs9 bm9 : List Value} {sn9 : List Str} {sub9 : List Value} {ab9 : Bool} {col9 : Option Bool} {dd9 : Option Addr} {m09 m19 m29 m39 m59 : Option Value}
    {ocI9 kVI9 dcI9 pmI9 cdI9 ctI9 : Value} {odI9 anI9 : Option Addr} {slI9 : Array (Option Value)}
    {nm10 qn10 : Str} {N10 : Addr} {bs10 bm10 : List Value} {sn10 : List Str} {sub10 : List Value} {ab10 : Bool} {col10 : Option Bool} {dd10 : Option Addr} {m010 m110 m210 m310 m510 : Option Value}
    {ocI10 kVI10 dcI10 pmI10 cdI10 ctI10 : Value} {odI10 anI10 : Option Addr} {slI10 : Array (Option Value)}
    {nm11 qn11 : Str} {N11 : Addr} {bs11 bm11 : List Value} {sn11 : List Str} {sub11 : List Value} {ab11 : Bool} {col11 : Option Bool} {dd11 : Option Addr} {m011 m111 m211 m311 m511 : Option Value}
    {ocI11 kVI11 dcI11 pmI11 cdI11 ctI11 : Value} {odI11 anI11 : Option Addr} {slI11 : Array (Option Value)}
    {nm12 qn12 : Str} {N12 : Addr} {bs12 bm12 : List Value} {sn12 : List Str} {sub12 : List Value} {ab12 : Bool} {col12 : Option Bool} {dd12 : Option Addr} {m012 m112 m212 m312 m512 : Option Value}
    {ocI12 kVI12 dcI12 pmI12 cdI12 ctI12 : Value} {odI12 anI12 : Option Addr} {slI12 : Array (Option Value)}
    {nm13 qn13 : Str} {N13 : Addr} {bs13 bm13 : List Value} {sn13 : List Str} {sub13 : List Value} {ab13 : Bool} {col13 : Option Bool} {dd13 : Option Addr} {m013 m113 m213 m313 m513 : Option Value}
    {ocI13 kVI13 dcI13 pmI13 cdI13 ctI13 : Value} {odI13 anI13 : Option Addr} {slI13 : Array (Option Value)}
    {nm14 qn14 : Str} {N14 : Addr} {bs14 bm14 : List Value} {sn14 : List Str} {sub14 : List Value} {ab14 : Bool} {col14 : Option Bool} {dd14 : Option Addr} {m014 m114 m214 m314 m514 : Option Value}
    {ocI14 kVI14 dcI14 pmI14 cdI14 ctI14 : Value} {odI14 anI14 : Option Addr} {slI14 : Array (Option Value)}
    {nm15 qn15 : Str} {N15 : Addr} {bs15 bm15 : List Value} {sn15 : List Str} {sub15 : List Value} {ab15 : Bool} {col15 : Option Bool} {dd15 : Option Addr} {m015 m115 m215 m315 m515 : Option Value}
    {ocI15 kVI15 dcI15 pmI15 cdI15 ctI15 : Value} {odI15 anI15 : Option Addr} {slI15 : Array (Option Value)}
    {nm16 qn16 : Str} {N16 : Addr} {bs16 bm16 : List Value} {sn16 : List Str} {sub16 : List Value} {ab16 : Bool} {col16 : Option Bool} {dd16 : Option Addr} {m016 m116 m216 m316 m516 : Option Value}
    {ocI16 kVI16 dcI16 pmI16 cdI16 ctI16 : Value} {odI16 anI16 : Option Addr} {slI16 : Array (Option Value)}
    {nm17 qn17 : Str} {N17 : Addr} {bs17 bm17 : List Value} {sn17 : List Str} {sub17 : List Value} {ab17 : Bool} {col17 : Option Bool} {dd17 : Option Addr} {m017 m117 m217 m317 m517 : Option Value}
    {nm18 qn18 : Str} {N18 : Addr} {bs18 bm18 : List Value} {sn18 : List Str} {sub18 : List Value} {ab18 : Bool} {col18 : Option Bool} {dd18 : Option Addr} {m018 m118 m218 m318 m518 : Option Value}
    (a_law_pen : PySem.W.nsIn K mainGlobals "_law_pen" = some (some (.ref f_law_pen)))
    (l_law_pen : K.lookup f_law_pen = some ⟨oc_law_pen, od_law_pen, .func (PySem.W.fnOf "_law_pen" "_law_pen" (defArgs st_law_pen) (defBody st_law_pen) (defScope st_law_pen) .none kV_law_pen dc_law_pen pm_law_pen an_law_pen cd_law_pen ct_law_pen), sl_law_pen⟩)
    (c_law_pen : PySem.W.codeIn K cd_law_pen "_law_pen" = true)
    (k_law_pen : PySem.W.keepIn K (.ref f_law_pen) = true)
    (a_law_draw : PySem.W.nsIn K mainGlobals "_law_draw" = some (some (.ref f_law_draw)))
    (l_law_draw : K.lookup f_law_draw = some ⟨oc_law_draw, od_law_draw, .func (PySem.W.fnOf "_law_draw" "_law_draw" (defArgs st_law_draw) (defBody st_law_draw) (defScope st_law_draw) .none kV_law_draw dc_law_draw pm_law_draw an_law_draw cd_law_draw ct_law_draw), sl_law_draw⟩)
    (c_law_draw : PySem.W.codeIn K cd_law_draw "_law_draw" = true)
    (k_law_draw : PySem.W.keepIn K (.ref f_law_draw) = true)
    (a_law_pick : PySem.W.nsIn K mainGlobals "_law_pick" = some (some (.ref f_law_pick)))
    (l_law_pick : K.lookup f_law_pick = some ⟨oc_law_pick, od_law_pick, .func (PySem.W.fnOf "_law_pick" "_law_pick" (defArgs st_law_pick) (defBody st_law_pick) (defScope st_law_pick) .none kV_law_pick dc_law_pick pm_law_pick an_law_pick cd_law_pick ct_law_pick), sl_law_pick⟩)
    (c_law_pick : PySem.W.codeIn K cd_law_pick "_law_pick" = true)
    (k_law_pick : PySem.W.keepIn K (.ref f_law_pick) = true)
    (a_law_big : PySem.W.nsIn K mainGlobals "_law_big" = some (some (.ref f_law_big)))
    (l_law_big : K.lookup f_law_big = some ⟨oc_law_big, od_law_big, .func (PySem.W.fnOf "_law_big" "_law_big" (defArgs st_law_big) (defBody st_law_big) (defScope st_law_big) .none kV_law_big dc_law_big pm_law_big an_law_big cd_law_big ct_law_big), sl_law_big⟩)
    (c_law_big : PySem.W.codeIn K cd_law_big "_law_big" = true)
    (k_law_big : PySem.W.keepIn K (.ref f_law_big) = true)
    (a_law_name : PySem.W.nsIn K mainGlobals "_law_name" = some (some (.ref f_law_name)))
    (l_law_name : K.lookup f_law_name = some ⟨oc_law_name, od_law_name, .func (PySem.W.fnOf "_law_name" "_law_name" (defArgs st_law_name) (defBody st_law_name) (defScope st_law_name) .none kV_law_name dc_law_name pm_law_name an_law_name cd_law_name ct_law_name), sl_law_name⟩)
    (c_law_name : PySem.W.codeIn K cd_law_name "_law_name" = true)
    (k_law_name : PySem.W.keepIn K (.ref f_law_name) = true)
    (a_law_of_one : PySem.W.nsIn K mainGlobals "_law_of_one" = some (some (.ref f_law_of_one)))
    (l_law_of_one : K.lookup f_law_of_one = some ⟨oc_law_of_one, od_law_of_one, .func (PySem.W.fnOf "_law_of_one" "_law_of_one" (defArgs st_law_of_one) (defBody st_law_of_one) (defScope st_law_of_one) .none kV_law_of_one dc_law_of_one pm_law_of_one an_law_of_one cd_law_of_one ct_law_of_one), sl_law_of_one⟩)
    (c_law_of_one : PySem.W.codeIn K cd_law_of_one "_law_of_one" = true)
    (k_law_of_one : PySem.W.keepIn K (.ref f_law_of_one) = true)
    (a_law_of_two : PySem.W.nsIn K mainGlobals "_law_of_two" = some (some (.ref f_law_of_two)))
    (l_law_of_two : K.lookup f_law_of_two = some ⟨oc_law_of_two, od_law_of_two, .func (PySem.W.fnOf "_law_of_two" "_law_of_two" (defArgs st_law_of_two) (defBody st_law_of_two) (defScope st_law_of_two) .none kV_law_of_two dc_law_of_two pm_law_of_two an_law_of_two cd_law_of_two ct_law_of_two), sl_law_of_two⟩)
    (c_law_of_two : PySem.W.codeIn K cd_law_of_two "_law_of_two" = true)
    (k_law_of_two : PySem.W.keepIn K (.ref f_law_of_two) = true)
    (a_law_made : PySem.W.nsIn K mainGlobals "_law_made" = some (some (.ref f_law_made)))
    (l_law_made : K.lookup f_law_made = some ⟨oc_law_made, od_law_made, .func (PySem.W.fnOf "_law_made" "_law_made" (defArgs st_law_made) (defBody st_law_made) (defScope st_law_made) .none kV_law_made dc_law_made pm_law_made an_law_made cd_law_made ct_law_made), sl_law_made⟩)
    (c_law_made : PySem.W.codeIn K cd_law_made "_law_made" = true)
    (k_law_made : PySem.W.keepIn K (.ref f_law_made) = true)
    (a_law_kinds : PySem.W.nsIn K mainGlobals "_law_kinds" = some (some (.ref f_law_kinds)))
    (l_law_kinds : K.lookup f_law_kinds = some ⟨oc_law_kinds, od_law_kinds, .func (PySem.W.fnOf "_law_kinds" "_law_kinds" (defArgs st_law_kinds) (defBody st_law_kinds) (defScope st_law_kinds) .none kV_law_kinds dc_law_kinds pm_law_kinds an_law_kinds cd_law_kinds ct_law_kinds), sl_law_kinds⟩)
    (c_law_kinds : PySem.W.codeIn K cd_law_kinds "_law_kinds" = true)
    (k_law_kinds : PySem.W.keepIn K (.ref f_law_kinds) = true)
    (alaw : PySem.W.nsIn K mainGlobals "law" = some (some (.ref flaw)))
    (llaw : K.lookup flaw = some ⟨oclaw, odlaw, .func (PySem.W.fnOf "law" "law" (defArgs stlaw) (defBody stlaw) (defScope stlaw) .none kVlaw dclaw pmlaw anlaw cdlaw ctlaw), sllaw⟩)
    (claw : PySem.W.codeIn K cdlaw "law" = true)
    (klaw : PySem.W.keepIn K (.ref flaw) = true)
    (A0 : PySem.W.nsIn K mainGlobals "BadName" = some (some (.ref C0)))
    (R0 : K.lookup C0 = some (excClassObj nm0 qn0 C0 N0 bs0 bm0 true sn0 sub0 ab0 col0 dd0 m00 m10 m20 m30 m50 "ValueError.__new__"))
    (M0 : PySem.HandSPX.refsVE bm0 = true)
    (B0 : errB K C0 ["name"] = true)
    (aI0 : PySem.W.findIn K (.ref C0) "__init__" = some (some (.ref fI0)))
    (lI0 : K.lookup fI0 = some ⟨ocI0, odI0, .func (PySem.W.fnOf "__init__" "BadName.__init__" (defArgs si_BadName) (defBody si_BadName) (defScope si_BadName) .none kVI0 dcI0 pmI0 anI0 cdI0 ctI0), slI0⟩)
    (cI0 : PySem.W.codeIn K cdI0 "BadName.__init__" = true)
    (kI0 : PySem.W.keepIn K (.ref fI0) = true)
    (t0 : PySem.W.typeIn K (.ref fI0) = some (.type "function"))
    (A1 : PySem.W.nsIn K mainGlobals "BadMatrix" = some (some (.ref C1)))
    (R1 : K.lookup C1 = some (excClassObj nm1 qn1 C1 N1 bs1 bm1 true sn1 sub1 ab1 col1 dd1 m01 m11 m21 m31 m51 "ValueError.__new__"))
    (M1 : PySem.HandSPX.refsVE bm1 = true)
    (B1 : errB K C1 ["what"] = true)
    (aI1 : PySem.W.findIn K (.ref C1) "__init__" = some (some (.ref fI1)))
    (lI1 : K.lookup fI1 = some ⟨ocI1, odI1, .func (PySem.W.fnOf "__init__" "BadMatrix.__init__" (defArgs si_BadMatrix) (defBody si_BadMatrix) (defScope si_BadMatrix) .none kVI1 dcI1 pmI1 anI1 cdI1 ctI1), slI1⟩)
    (cI1 : PySem.W.codeIn K cdI1 "BadMatrix.__init__" = true)
    (kI1 : PySem.W.keepIn K (.ref fI1) = true)
    (t1 : PySem.W.typeIn K (.ref fI1) = some (.type "function"))
    (A2 : PySem.W.nsIn K mainGlobals "ByZero" = some (some (.ref C2)))
    (R2 : K.lookup C2 = some (excClassObj nm2 qn2 C2 N2 bs2 bm2 true sn2 sub2 ab2 col2 dd2 m02 m12 m22 m32 m52 "ValueError.__new__"))
    (M2 : PySem.HandSPX.refsVE bm2 = true)
    (B2 : errB K C2 ["place"] = true)
    (aI2 : PySem.W.findIn K (.ref C2) "__init__" = some (some (.ref fI2)))
    (lI2 : K.lookup fI2 = some ⟨ocI2, odI2, .func (PySem.W.fnOf "__init__" "ByZero.__init__" (defArgs si_ByZero) (defBody si_ByZero) (defScope si_ByZero) .none kVI2 dcI2 pmI2 anI2 cdI2 ctI2), slI2⟩)
    (cI2 : PySem.W.codeIn K cdI2 "ByZero.__init__" = true)
    (kI2 : PySem.W.keepIn K (.ref fI2) = true)
    (t2 : PySem.W.typeIn K (.ref fI2) = some (.type "function"))
    (A3 : PySem.W.nsIn K mainGlobals "NotPower" = some (some (.ref C3)))
    (R3 : K.lookup C3 = some (excClassObj nm3 qn3 C3 N3 bs3 bm3 true sn3 sub3 ab3 col3 dd3 m03 m13 m23 m33 m53 "ValueError.__new__"))
    (M3 : PySem.HandSPX.refsVE bm3 = true)
    (B3 : errB K C3 ["place"] = true)
    (aI3 : PySem.W.findIn K (.ref C3) "__init__" = some (some (.ref fI3)))
    (lI3 : K.lookup fI3 = some ⟨ocI3, odI3, .func (PySem.W.fnOf "__init__" "NotPower.__init__" (defArgs si_NotPower) (defBody si_NotPower) (defScope si_NotPower) .none kVI3 dcI3 pmI3 anI3 cdI3 ctI3), slI3⟩)
    (cI3 : PySem.W.codeIn K cdI3 "NotPower.__init__" = true)
    (kI3 : PySem.W.keepIn K (.ref fI3) = true)
    (t3 : PySem.W.typeIn K (.ref fI3) = some (.type "function"))
    (A4 : PySem.W.nsIn K mainGlobals "HasIf" = some (some (.ref C4)))
    (R4 : K.lookup C4 = some (excClassObj nm4 qn4 C4 N4 bs4 bm4 true sn4 sub4 ab4 col4 dd4 m04 m14 m24 m34 m54 "ValueError.__new__"))
    (M4 : PySem.HandSPX.refsVE bm4 = true)
    (B4 : errB K C4 ["name"] = true)
    (aI4 : PySem.W.findIn K (.ref C4) "__init__" = some (some (.ref fI4)))
    (lI4 : K.lookup fI4 = some ⟨ocI4, odI4, .func (PySem.W.fnOf "__init__" "HasIf.__init__" (defArgs si_HasIf) (defBody si_HasIf) (defScope si_HasIf) .none kVI4 dcI4 pmI4 anI4 cdI4 ctI4), slI4⟩)
    (cI4 : PySem.W.codeIn K cdI4 "HasIf.__init__" = true)
    (kI4 : PySem.W.keepIn K (.ref fI4) = true)
    (t4 : PySem.W.typeIn K (.ref fI4) = some (.type "function"))
    (A5 : PySem.W.nsIn K mainGlobals "NoUnit" = some (some (.ref C5)))
    (R5 : K.lookup C5 = some (excClassObj nm5 qn5 C5 N5 bs5 bm5 true sn5 sub5 ab5 col5 dd5 m05 m15 m25 m35 m55 "ValueError.__new__"))
    (M5 : PySem.HandSPX.refsVE bm5 = true)
    (B5 : errB K C5 ["name"] = true)
    (aI5 : PySem.W.findIn K (.ref C5) "__init__" = some (some (.ref fI5)))
    (lI5 : K.lookup fI5 = some ⟨ocI5, odI5, .func (PySem.W.fnOf "__init__" "NoUnit.__init__" (defArgs si_NoUnit) (defBody si_NoUnit) (defScope si_NoUnit) .none kVI5 dcI5 pmI5 anI5 cdI5 ctI5), slI5⟩)
    (cI5 : PySem.W.codeIn K cdI5 "NoUnit.__init__" = true)
    (kI5 : PySem.W.keepIn K (.ref fI5) = true)
    (t5 : PySem.W.typeIn K (.ref fI5) = some (.type "function"))
    (A6 : PySem.W.nsIn K mainGlobals "NoName" = some (some (.ref C6)))
    (R6 : K.lookup C6 = some (excClassObj nm6 qn6 C6 N6 bs6 bm6 true sn6 sub6 ab6 col6 dd6 m06 m16 m26 m36 m56 "ValueError.__new__"))
    (M6 : PySem.HandSPX.refsVE bm6 = true)
    (B6 : errB K C6 ["name"] = true)
    (aI6 : PySem.W.findIn K (.ref C6) "__init__" = some (some (.ref fI6)))
    (lI6 : K.lookup fI6 = some ⟨ocI6, odI6, .func (PySem.W.fnOf "__init__" "NoName.__init__" (defArgs si_NoName) (defBody si_NoName) (defScope si_NoName) .none kVI6 dcI6 pmI6 anI6 cdI6 ctI6), slI6⟩)
    (cI6 : PySem.W.codeIn K cdI6 "NoName.__init__" = true)
    (kI6 : PySem.W.keepIn K (.ref fI6) = true)
    (t6 : PySem.W.typeIn K (.ref fI6) = some (.type "function"))
    (A7 : PySem.W.nsIn K mainGlobals "TakenName" = some (some (.ref C7)))
    (R7 : K.lookup C7 = some (excClassObj nm7 qn7 C7 N7 bs7 bm7 true sn7 sub7 ab7 col7 dd7 m07 m17 m27 m37 m57 "ValueError.__new__"))
    (M7 : PySem.HandSPX.refsVE bm7 = true)
    (B7 : errB K C7 ["name"] = true)
    (aI7 : PySem.W.findIn K (.ref C7) "__init__" = some (some (.ref fI7)))
    (lI7 : K.lookup fI7 = some ⟨ocI7, odI7, .func (PySem.W.fnOf "__init__" "TakenName.__init__" (defArgs si_TakenName) (defBody si_TakenName) (defScope si_TakenName) .none kVI7 dcI7 pmI7 anI7 cdI7 ctI7), slI7⟩)
    (cI7 : PySem.W.codeIn K cdI7 "TakenName.__init__" = true)
    (kI7 : PySem.W.keepIn K (.ref fI7) = true)
    (t7 : PySem.W.typeIn K (.ref fI7) = some (.type "function"))
    (A8 : PySem.W.nsIn K mainGlobals "TooDeep" = some (some (.ref C8)))
    (R8 : K.lookup C8 = some (excClassObj nm8 qn8 C8 N8 bs8 bm8 true sn8 sub8 ab8 col8 dd8 m08 m18 m28 m38 m58 "ValueError.__new__"))
    (M8 : PySem.HandSPX.refsVE bm8 = true)
    (B8 : errB K C8 ["limit"] = true)
    (aI8 : PySem.W.findIn K (.ref C8) "__init__" = some (some (.ref fI8)))
    (lI8 : K.lookup fI8 = some ⟨ocI8, odI8, .func (PySem.W.fnOf "__init__" "TooDeep.__init__" (defArgs si_TooDeep) (defBody si_TooDeep) (defScope si_TooDeep) .none kVI8 dcI8 pmI8 anI8 cdI8 ctI8), slI8⟩)
    (cI8 : PySem.W.codeIn K cdI8 "TooDeep.__init__" = true)
    (kI8 : PySem.W.keepIn K (.ref fI8) = true)
    (t8 : PySem.W.typeIn K (.ref fI8) = some (.type "function"))
    (A9 : PySem.W.nsIn K mainGlobals "NotWhole" = some (some (.ref C9)))
    (R9 : K.lookup C9 = some (excClassObj nm9 qn9 C9 N9 bs9 bm9 true sn9 sub9 ab9 col9 dd9 m09 m19 m29 m39 m59 "ValueError.__new__"))
    (M9 : PySem.HandSPX.refsVE bm9 = true)
    (B9 : errB K C9 ["what"] = true)
    (aI9 : PySem.W.findIn K (.ref C9) "__init__" = some (some (.ref fI9)))
    (lI9 : K.lookup fI9 = some ⟨ocI9, odI9, .func (PySem.W.fnOf "__init__" "NotWhole.__init__" (defArgs si_NotWhole) (defBody si_NotWhole) (defScope si_NotWhole) .none kVI9 dcI9 pmI9 anI9 cdI9 ctI9), slI9⟩)
    (cI9 : PySem.W.codeIn K cdI9 "NotWhole.__init__" = true)
    (kI9 : PySem.W.keepIn K (.ref fI9) = true)
    (t9 : PySem.W.typeIn K (.ref fI9) = some (.type "function"))
    (A10 : PySem.W.nsIn K mainGlobals "BadText" = some (some (.ref C10)))
    (R10 : K.lookup C10 = some (excClassObj nm10 qn10 C10 N10 bs10 bm10 true sn10 sub10 ab10 col10 dd10 m010 m110 m210 m310 m510 "ValueError.__new__"))
    (M10 : PySem.HandSPX.refsVE bm10 = true)
    (B10 : errB K C10 ["line", "column"] = true)
    (aI10 : PySem.W.findIn K (.ref C10) "__init__" = some (some (.ref fI10)))
    (lI10 : K.lookup fI10 = some ⟨ocI10, odI10, .func (PySem.W.fnOf "__init__" "BadText.__init__" (defArgs si_BadText) (defBody si_BadText) (defScope si_BadText) .none kVI10 dcI10 pmI10 anI10 cdI10 ctI10), slI10⟩)
    (cI10 : PySem.W.codeIn K cdI10 "BadText.__init__" = true)
    (kI10 : PySem.W.keepIn K (.ref fI10) = true)
    (t10 : PySem.W.typeIn K (.ref fI10) = some (.type "function"))
    (A11 : PySem.W.nsIn K mainGlobals "BadNumber" = some (some (.ref C11)))
    (R11 : K.lookup C11 = some (excClassObj nm11 qn11 C11 N11 bs11 bm11 true sn11 sub11 ab11 col11 dd11 m011 m111 m211 m311 m511 "ValueError.__new__"))
    (M11 : PySem.HandSPX.refsVE bm11 = true)
    (B11 : errB K C11 ["what", "number"] = true)
    (aI11 : PySem.W.findIn K (.ref C11) "__init__" = some (some (.ref fI11)))
    (lI11 : K.lookup fI11 = some ⟨ocI11, odI11, .func (PySem.W.fnOf "__init__" "BadNumber.__init__" (defArgs si_BadNumber) (defBody si_BadNumber) (defScope si_BadNumber) .none kVI11 dcI11 pmI11 anI11 cdI11 ctI11), slI11⟩)
    (cI11 : PySem.W.codeIn K cdI11 "BadNumber.__init__" = true)
    (kI11 : PySem.W.keepIn K (.ref fI11) = true)
    (t11 : PySem.W.typeIn K (.ref fI11) = some (.type "function"))
    (A12 : PySem.W.nsIn K mainGlobals "Contradicted" = some (some (.ref C12)))
    (R12 : K.lookup C12 = some (excClassObj nm12 qn12 C12 N12 bs12 bm12 true sn12 sub12 ab12 col12 dd12 m012 m112 m212 m312 m512 "ValueError.__new__"))
    (M12 : PySem.HandSPX.refsVE bm12 = true)
    (B12 : errB K C12 ["first", "second"] = true)
    (aI12 : PySem.W.findIn K (.ref C12) "__init__" = some (some (.ref fI12)))
    (lI12 : K.lookup fI12 = some ⟨ocI12, odI12, .func (PySem.W.fnOf "__init__" "Contradicted.__init__" (defArgs si_Contradicted) (defBody si_Contradicted) (defScope si_Contradicted) .none kVI12 dcI12 pmI12 anI12 cdI12 ctI12), slI12⟩)
    (cI12 : PySem.W.codeIn K cdI12 "Contradicted.__init__" = true)
    (kI12 : PySem.W.keepIn K (.ref fI12) = true)
    (t12 : PySem.W.typeIn K (.ref fI12) = some (.type "function"))
    (A13 : PySem.W.nsIn K mainGlobals "NotKept" = some (some (.ref C13)))
    (R13 : K.lookup C13 = some (excClassObj nm13 qn13 C13 N13 bs13 bm13 true sn13 sub13 ab13 col13 dd13 m013 m113 m213 m313 m513 "ValueError.__new__"))
    (M13 : PySem.HandSPX.refsVE bm13 = true)
    (B13 : errB K C13 ["promise", "witness"] = true)
    (aI13 : PySem.W.findIn K (.ref C13) "__init__" = some (some (.ref fI13)))
    (lI13 : K.lookup fI13 = some ⟨ocI13, odI13, .func (PySem.W.fnOf "__init__" "NotKept.__init__" (defArgs si_NotKept) (defBody si_NotKept) (defScope si_NotKept) .none kVI13 dcI13 pmI13 anI13 cdI13 ctI13), slI13⟩)
    (cI13 : PySem.W.codeIn K cdI13 "NotKept.__init__" = true)
    (kI13 : PySem.W.keepIn K (.ref fI13) = true)
    (t13 : PySem.W.typeIn K (.ref fI13) = some (.type "function"))
    (A14 : PySem.W.nsIn K mainGlobals "Unlike" = some (some (.ref C14)))
    (R14 : K.lookup C14 = some (excClassObj nm14 qn14 C14 N14 bs14 bm14 true sn14 sub14 ab14 col14 dd14 m014 m114 m214 m314 m514 "ValueError.__new__"))
    (M14 : PySem.HandSPX.refsVE bm14 = true)
    (B14 : errB K C14 ["place", "one", "other"] = true)
    (aI14 : PySem.W.findIn K (.ref C14) "__init__" = some (some (.ref fI14)))
    (lI14 : K.lookup fI14 = some ⟨ocI14, odI14, .func (PySem.W.fnOf "__init__" "Unlike.__init__" (defArgs si_Unlike) (defBody si_Unlike) (defScope si_Unlike) .none kVI14 dcI14 pmI14 anI14 cdI14 ctI14), slI14⟩)
    (cI14 : PySem.W.codeIn K cdI14 "Unlike.__init__" = true)
    (kI14 : PySem.W.keepIn K (.ref fI14) = true)
    (t14 : PySem.W.typeIn K (.ref fI14) = some (.type "function"))
    (A15 : PySem.W.nsIn K mainGlobals "TooMany" = some (some (.ref C15)))
    (R15 : K.lookup C15 = some (excClassObj nm15 qn15 C15 N15 bs15 bm15 true sn15 sub15 ab15 col15 dd15 m015 m115 m215 m315 m515 "ValueError.__new__"))
    (M15 : PySem.HandSPX.refsVE bm15 = true)
    (B15 : errB K C15 ["what", "many", "limit"] = true)
    (aI15 : PySem.W.findIn K (.ref C15) "__init__" = some (some (.ref fI15)))
    (lI15 : K.lookup fI15 = some ⟨ocI15, odI15, .func (PySem.W.fnOf "__init__" "TooMany.__init__" (defArgs si_TooMany) (defBody si_TooMany) (defScope si_TooMany) .none kVI15 dcI15 pmI15 anI15 cdI15 ctI15), slI15⟩)
    (cI15 : PySem.W.codeIn K cdI15 "TooMany.__init__" = true)
    (kI15 : PySem.W.keepIn K (.ref fI15) = true)
    (t15 : PySem.W.typeIn K (.ref fI15) = some (.type "function"))
    (A16 : PySem.W.nsIn K mainGlobals "TooLarge" = some (some (.ref C16)))
    (R16 : K.lookup C16 = some (excClassObj nm16 qn16 C16 N16 bs16 bm16 true sn16 sub16 ab16 col16 dd16 m016 m116 m216 m316 m516 "ValueError.__new__"))
    (M16 : PySem.HandSPX.refsVE bm16 = true)
    (B16 : errB K C16 ["what", "number", "limit"] = true)
    (aI16 : PySem.W.findIn K (.ref C16) "__init__" = some (some (.ref fI16)))
    (lI16 : K.lookup fI16 = some ⟨ocI16, odI16, .func (PySem.W.fnOf "__init__" "TooLarge.__init__" (defArgs si_TooLarge) (defBody si_TooLarge) (defScope si_TooLarge) .none kVI16 dcI16 pmI16 anI16 cdI16 ctI16), slI16⟩)
    (cI16 : PySem.W.codeIn K cdI16 "TooLarge.__init__" = true)
    (kI16 : PySem.W.keepIn K (.ref fI16) = true)
    (t16 : PySem.W.typeIn K (.ref fI16) = some (.type "function"))
    (A17 : PySem.W.nsIn K mainGlobals "NothingToUndo" = some (some (.ref C17)))
    (R17 : K.lookup C17 = some (excClassObj nm17 qn17 C17 N17 bs17 bm17 true sn17 sub17 ab17 col17 dd17 m017 m117 m217 m317 m517 "ValueError.__new__"))
    (M17 : PySem.HandSPX.refsVE bm17 = true)
    (B17 : errB K C17 [] = true)
    (A18 : PySem.W.nsIn K mainGlobals "NothingToRedo" = some (some (.ref C18)))
    (R18 : K.lookup C18 = some (excClassObj nm18 qn18 C18 N18 bs18 bm18 true sn18 sub18 ab18 col18 dd18 m018 m118 m218 m318 m518 "ValueError.__new__"))
    (M18 : PySem.HandSPX.refsVE bm18 = true)
    (B18 : errB K C18 [] = true)
    (AS : PySem.W.nsIn K mainGlobals "ScaleError" = some (some (.ref CS)))
    (X17 : PySem.W.excIn K C17 PySem.HandSPX.veTail "ValueError.__new__" = true)
    (X18 : PySem.W.excIn K C18 PySem.HandSPX.veTail "ValueError.__new__" = true)
    (KT : kitTab K [C0, C1, C2, C3, C4, C5, C6, C7, C8, C9, C10, C11, C12, C13, C14, C15, C16, C17, C18] CS = true)
    (BT : bltB K = true)
    (NV : PySem.W.nsIn K mainGlobals "ValueError" = some none) :
    ∃ fd : FuncData, (∀ (s : Shared) (v : Value), BindsTo s fd ⟨[v], []⟩ [("_law_script", v)]) ∧ ∀ base : Heap, K.In base → base.Ns mainGlobals mg → FnG l.prog w K mg base CX0 5 fa fd ["_law_script"] (spLaw K) := by
  have e := hfa.symm.trans (PySem.W.mg_of X G alaw)
  cases e
  have F_law_pen := fun_mk (st := st_law_pen) l_law_pen c_law_pen k_law_pen
  have D_law_pen : DefAt K mg "_law_pen" st_law_pen ["_law_script"] f_law_pen _ := ⟨F_law_pen, PySem.W.mg_of X G a_law_pen, F_law_pen.binds (ps := ["_law_script"]) fun _ _ _ _ _ _ us hl => match us, hl with | [_], _ => rfl⟩
  have F_law_draw := fun_mk (st := st_law_draw) l_law_draw c_law_draw k_law_draw
  have D_law_draw : DefAt K mg "_law_draw" st_law_draw ["_law_pen_here", "_law_many"] f_law_draw _ := ⟨F_law_draw, PySem.W.mg_of X G a_law_draw, F_law_draw.binds (ps := ["_law_pen_here", "_law_many"]) fun _ _ _ _ _ _ us hl => match us, hl with | [_, _], _ => rfl⟩
  have F_law_pick := fun_mk (st := st_law_pick) l_law_pick c_law_pick k_law_pick
  have D_law_pick : DefAt K mg "_law_pick" st_law_pick ["_law_pen_here", "_law_some"] f_law_pick _ := ⟨F_law_pick, PySem.W.mg_of X G a_law_pick, F_law_pick.binds (ps := ["_law_pen_here", "_law_some"]) fun _ _ _ _ _ _ us hl => match us, hl with | [_, _], _ => rfl⟩
  have F_law_big := fun_mk (st := st_law_big) l_law_big c_law_big k_law_big
  have D_law_big : DefAt K mg "_law_big" st_law_big ["_law_pen_here", "_law_figures"] f_law_big _ := ⟨F_law_big, PySem.W.mg_of X G a_law_big, F_law_big.binds (ps := ["_law_pen_here", "_law_figures"]) fun _ _ _ _ _ _ us hl => match us, hl with | [_, _], _ => rfl⟩
  have F_law_name := fun_mk (st := st_law_name) l_law_name c_law_name k_law_name
  have D_law_name : DefAt K mg "_law_name" st_law_name ["_law_pen_here", "_law_used"] f_law_name _ := ⟨F_law_name, PySem.W.mg_of X G a_law_name, F_law_name.binds (ps := ["_law_pen_here", "_law_used"]) fun _ _ _ _ _ _ us hl => match us, hl with | [_, _], _ => rfl⟩
  have F_law_of_one := fun_mk (st := st_law_of_one) l_law_of_one c_law_of_one k_law_of_one
  have D_law_of_one : DefAt K mg "_law_of_one" st_law_of_one ["_law_kind", "_law_a"] f_law_of_one _ := ⟨F_law_of_one, PySem.W.mg_of X G a_law_of_one, F_law_of_one.binds (ps := ["_law_kind", "_law_a"]) fun _ _ _ _ _ _ us hl => match us, hl with | [_, _], _ => rfl⟩
  have F_law_of_two := fun_mk (st := st_law_of_two) l_law_of_two c_law_of_two k_law_of_two
  have D_law_of_two : DefAt K mg "_law_of_two" st_law_of_two ["_law_kind", "_law_a", "_law_b"] f_law_of_two _ := ⟨F_law_of_two, PySem.W.mg_of X G a_law_of_two, F_law_of_two.binds (ps := ["_law_kind", "_law_a", "_law_b"]) fun _ _ _ _ _ _ us hl => match us, hl with | [_, _, _], _ => rfl⟩
  have F_law_made := fun_mk (st := st_law_made) l_law_made c_law_made k_law_made
  have D_law_made : DefAt K mg "_law_made" st_law_made ["_law_kind", "_law_values"] f_law_made _ := ⟨F_law_made, PySem.W.mg_of X G a_law_made, F_law_made.binds (ps := ["_law_kind", "_law_values"]) fun _ _ _ _ _ _ us hl => match us, hl with | [_, _], _ => rfl⟩
  have F_law_kinds := fun_mk (st := st_law_kinds) l_law_kinds c_law_kinds k_law_kinds
  have D_law_kinds : DefAt K mg "_law_kinds" st_law_kinds ["_law_e"] f_law_kinds _ := ⟨F_law_kinds, PySem.W.mg_of X G a_law_kinds, F_law_kinds.binds (ps := ["_law_e"]) fun _ _ _ _ _ _ us hl => match us, hl with | [_], _ => rfl⟩
  have Flaw := fun_mk (st := stlaw) llaw claw klaw
  have Dlaw : DefAt K mg "law" stlaw ["_law_script"] flaw _ := ⟨Flaw, PySem.W.mg_of X G alaw, Flaw.binds (ps := ["_law_script"]) fun _ _ _ _ _ _ us hl => match us, hl with | [_], _ => rfl⟩
  have E0 := errT_of R0 M0 (PySem.W.mg_of X G A0) B0
  have FI0 := fun_mk (st := si_BadName) lI0 cI0 kI0
  have I0 : IniT K "BadName.__init__" si_BadName ["self", "name"] C0 fI0 _ := ⟨FI0, FI0.binds (ps := ["self", "name"]) fun _ _ _ _ _ _ us hl => match us, hl with | [_, _], _ => rfl, aI0, t0⟩
  have E1 := errT_of R1 M1 (PySem.W.mg_of X G A1) B1
  have FI1 := fun_mk (st := si_BadMatrix) lI1 cI1 kI1
  have I1 : IniT K "BadMatrix.__init__" si_BadMatrix ["self", "what"] C1 fI1 _ := ⟨FI1, FI1.binds (ps := ["self", "what"]) fun _ _ _ _ _ _ us hl => match us, hl with | [_, _], _ => rfl, aI1, t1⟩
  have E2 := errT_of R2 M2 (PySem.W.mg_of X G A2) B2
  have FI2 := fun_mk (st := si_ByZero) lI2 cI2 kI2
  have I2 : IniT K "ByZero.__init__" si_ByZero ["self", "place"] C2 fI2 _ := ⟨FI2, FI2.binds (ps := ["self", "place"]) fun _ _ _ _ _ _ us hl => match us, hl with | [_, _], _ => rfl, aI2, t2⟩
  have E3 := errT_of R3 M3 (PySem.W.mg_of X G A3) B3
  have FI3 := fun_mk (st := si_NotPower) lI3 cI3 kI3
  have I3 : IniT K "NotPower.__init__" si_NotPower ["self", "place"] C3 fI3 _ := ⟨FI3, FI3.binds (ps := ["self", "place"]) fun _ _ _ _ _ _ us hl => match us, hl with | [_, _], _ => rfl, aI3, t3⟩
  have E4 := errT_of R4 M4 (PySem.W.mg_of X G A4) B4
  have FI4 := fun_mk (st := si_HasIf) lI4 cI4 kI4
  have I4 : IniT K "HasIf.__init__" si_HasIf ["self", "name"] C4 fI4 _ := ⟨FI4, FI4.binds (ps := ["self", "name"]) fun _ _ _ _ _ _ us hl => match us, hl with | [_, _], _ => rfl, aI4, t4⟩
  have E5 := errT_of R5 M5 (PySem.W.mg_of X G A5) B5
  have FI5 := fun_mk (st := si_NoUnit) lI5 cI5 kI5
  have I5 : IniT K "NoUnit.__init__" si_NoUnit ["self", "name"] C5 fI5 _ := ⟨FI5, FI5.binds (ps := ["self", "name"]) fun _ _ _ _ _ _ us hl => match us, hl with | [_, _], _ => rfl, aI5, t5⟩
  have E6 := errT_of R6 M6 (PySem.W.mg_of X G A6) B6
  have FI6 := fun_mk (st := si_NoName) lI6 cI6 kI6
  have I6 : IniT K "NoName.__init__" si_NoName ["self", "name"] C6 fI6 _ := ⟨FI6, FI6.binds (ps := ["self", "name"]) fun _ _ _ _ _ _ us hl => match us, hl with | [_, _], _ => rfl, aI6, t6⟩
  have E7 := errT_of R7 M7 (PySem.W.mg_of X G A7) B7
  have FI7 := fun_mk (st := si_TakenName) lI7 cI7 kI7
  have I7 : IniT K "TakenName.__init__" si_TakenName ["self", "name"] C7 fI7 _ := ⟨FI7, FI7.binds (ps := ["self", "name"]) fun _ _ _ _ _ _ us hl => match us, hl with | [_, _], _ => rfl, aI7, t7⟩
  have E8 := errT_of R8 M8 (PySem.W.mg_of X G A8) B8
  have FI8 := fun_mk (st := si_TooDeep) lI8 cI8 kI8
  have I8 : IniT K "TooDeep.__init__" si_TooDeep ["self", "limit"] C8 fI8 _ := ⟨FI8, FI8.binds (ps := ["self", "limit"]) fun _ _ _ _ _ _ us hl => match us, hl with | [_, _], _ => rfl, aI8, t8⟩
  have E9 := errT_of R9 M9 (PySem.W.mg_of X G A9) B9
  have FI9 := fun_mk (st := si_NotWhole) lI9 cI9 kI9
  have I9 : IniT K "NotWhole.__init__" si_NotWhole ["self", "what"] C9 fI9 _ := ⟨FI9, FI9.binds (ps := ["self", "what"]) fun _ _ _ _ _ _ us hl => match us, hl with | [_, _], _ => rfl, aI9, t9⟩
  have E10 := errT_of R10 M10 (PySem.W.mg_of X G A10) B10
  have FI10 := fun_mk (st := si_BadText) lI10 cI10 kI10
  have I10 : IniT K "BadText.__init__" si_BadText ["self", "line", "column"] C10 fI10 _ := ⟨FI10, FI10.binds (ps := ["self", "line", "column"]) fun _ _ _ _ _ _ us hl => match us, hl with | [_, _, _], _ => rfl, aI10, t10⟩
  have E11 := errT_of R11 M11 (PySem.W.mg_of X G A11) B11
  have FI11 := fun_mk (st := si_BadNumber) lI11 cI11 kI11
  have I11 : IniT K "BadNumber.__init__" si_BadNumber ["self", "what", "number"] C11 fI11 _ := ⟨FI11, FI11.binds (ps := ["self", "what", "number"]) fun _ _ _ _ _ _ us hl => match us, hl with | [_, _, _], _ => rfl, aI11, t11⟩
  have E12 := errT_of R12 M12 (PySem.W.mg_of X G A12) B12
  have FI12 := fun_mk (st := si_Contradicted) lI12 cI12 kI12
  have I12 : IniT K "Contradicted.__init__" si_Contradicted ["self", "first", "second"] C12 fI12 _ := ⟨FI12, FI12.binds (ps := ["self", "first", "second"]) fun _ _ _ _ _ _ us hl => match us, hl with | [_, _, _], _ => rfl, aI12, t12⟩
  have E13 := errT_of R13 M13 (PySem.W.mg_of X G A13) B13
  have FI13 := fun_mk (st := si_NotKept) lI13 cI13 kI13
  have I13 : IniT K "NotKept.__init__" si_NotKept ["self", "promise", "witness"] C13 fI13 _ := ⟨FI13, FI13.binds (ps := ["self", "promise", "witness"]) fun _ _ _ _ _ _ us hl => match us, hl with | [_, _, _], _ => rfl, aI13, t13⟩
  have E14 := errT_of R14 M14 (PySem.W.mg_of X G A14) B14
  have FI14 := fun_mk (st := si_Unlike) lI14 cI14 kI14
  have I14 : IniT K "Unlike.__init__" si_Unlike ["self", "place", "one", "other"] C14 fI14 _ := ⟨FI14, FI14.binds (ps := ["self", "place", "one", "other"]) fun _ _ _ _ _ _ us hl => match us, hl with | [_, _, _, _], _ => rfl, aI14, t14⟩
  have E15 := errT_of R15 M15 (PySem.W.mg_of X G A15) B15
  have FI15 := fun_mk (st := si_TooMany) lI15 cI15 kI15
  have I15 : IniT K "TooMany.__init__" si_TooMany ["self", "what", "many", "limit"] C15 fI15 _ := ⟨FI15, FI15.binds (ps := ["self", "what", "many", "limit"]) fun _ _ _ _ _ _ us hl => match us, hl with | [_, _, _, _], _ => rfl, aI15, t15⟩
  have E16 := errT_of R16 M16 (PySem.W.mg_of X G A16) B16
  have FI16 := fun_mk (st := si_TooLarge) lI16 cI16 kI16
  have I16 : IniT K "TooLarge.__init__" si_TooLarge ["self", "what", "number", "limit"] C16 fI16 _ := ⟨FI16, FI16.binds (ps := ["self", "what", "number", "limit"]) fun _ _ _ _ _ _ us hl => match us, hl with | [_, _, _, _], _ => rfl, aI16, t16⟩
  have E17 := errT_of R17 M17 (PySem.W.mg_of X G A17) B17
  have E18 := errT_of R18 M18 (PySem.W.mg_of X G A18) B18
  obtain ⟨k1, k2, k3⟩ := kitTab_of KT
  have Es : Errs K mg (fun i => ([C0, C1, C2, C3, C4, C5, C6, C7, C8, C9, C10, C11, C12, C13, C14, C15, C16, C17, C18] : List Addr).getD i 0) (fun i => ([fI0, fI1, fI2, fI3, fI4, fI5, fI6, fI7, fI8, fI9, fI10, fI11, fI12, fI13, fI14, fI15, fI16, 0, 0] : List Addr).getD i 0) (fun i => ([PySem.W.fnOf "__init__" "BadName.__init__" (defArgs si_BadName) (defBody si_BadName) (defScope si_BadName) .none kVI0 dcI0 pmI0 anI0 cdI0 ctI0, PySem.W.fnOf "__init__" "BadMatrix.__init__" (defArgs si_BadMatrix) (defBody si_BadMatrix) (defScope si_BadMatrix) .none kVI1 dcI1 pmI1 anI1 cdI1 ctI1, PySem.W.fnOf "__init__" "ByZero.__init__" (defArgs si_ByZero) (defBody si_ByZero) (defScope si_ByZero) .none kVI2 dcI2 pmI2 anI2 cdI2 ctI2, PySem.W.fnOf "__init__" "NotPower.__init__" (defArgs si_NotPower) (defBody si_NotPower) (defScope si_NotPower) .none kVI3 dcI3 pmI3 anI3 cdI3 ctI3, PySem.W.fnOf "__init__" "HasIf.__init__" (defArgs si_HasIf) (defBody si_HasIf) (defScope si_HasIf) .none kVI4 dcI4 pmI4 anI4 cdI4 ctI4, PySem.W.fnOf "__init__" "NoUnit.__init__" (defArgs si_NoUnit) (defBody si_NoUnit) (defScope si_NoUnit) .none kVI5 dcI5 pmI5 anI5 cdI5 ctI5, PySem.W.fnOf "__init__" "NoName.__init__" (defArgs si_NoName) (defBody si_NoName) (defScope si_NoName) .none kVI6 dcI6 pmI6 anI6 cdI6 ctI6, PySem.W.fnOf "__init__" "TakenName.__init__" (defArgs si_TakenName) (defBody si_TakenName) (defScope si_TakenName) .none kVI7 dcI7 pmI7 anI7 cdI7 ctI7, PySem.W.fnOf "__init__" "TooDeep.__init__" (defArgs si_TooDeep) (defBody si_TooDeep) (defScope si_TooDeep) .none kVI8 dcI8 pmI8 anI8 cdI8 ctI8, PySem.W.fnOf "__init__" "NotWhole.__init__" (defArgs si_NotWhole) (defBody si_NotWhole) (defScope si_NotWhole) .none kVI9 dcI9 pmI9 anI9 cdI9 ctI9, PySem.W.fnOf "__init__" "BadText.__init__" (defArgs si_BadText) (defBody si_BadText) (defScope si_BadText) .none kVI10 dcI10 pmI10 anI10 cdI10 ctI10, PySem.W.fnOf "__init__" "BadNumber.__init__" (defArgs si_BadNumber) (defBody si_BadNumber) (defScope si_BadNumber) .none kVI11 dcI11 pmI11 anI11 cdI11 ctI11, PySem.W.fnOf "__init__" "Contradicted.__init__" (defArgs si_Contradicted) (defBody si_Contradicted) (defScope si_Contradicted) .none kVI12 dcI12 pmI12 anI12 cdI12 ctI12, PySem.W.fnOf "__init__" "NotKept.__init__" (defArgs si_NotKept) (defBody si_NotKept) (defScope si_NotKept) .none kVI13 dcI13 pmI13 anI13 cdI13 ctI13, PySem.W.fnOf "__init__" "Unlike.__init__" (defArgs si_Unlike) (defBody si_Unlike) (defScope si_Unlike) .none kVI14 dcI14 pmI14 anI14 cdI14 ctI14, PySem.W.fnOf "__init__" "TooMany.__init__" (defArgs si_TooMany) (defBody si_TooMany) (defScope si_TooMany) .none kVI15 dcI15 pmI15 anI15 cdI15 ctI15, PySem.W.fnOf "__init__" "TooLarge.__init__" (defArgs si_TooLarge) (defBody si_TooLarge) (defScope si_TooLarge) .none kVI16 dcI16 pmI16 anI16 cdI16 ctI16, PySem.W.fnOf "__init__" "BadName.__init__" (defArgs si_BadName) (defBody si_BadName) (defScope si_BadName) .none kVI0 dcI0 pmI0 anI0 cdI0 ctI0, PySem.W.fnOf "__init__" "BadName.__init__" (defArgs si_BadName) (defBody si_BadName) (defScope si_BadName) .none kVI0 dcI0 pmI0 anI0 cdI0 ctI0] : List FuncData).getD i (PySem.W.fnOf "__init__" "BadName.__init__" (defArgs si_BadName) (defBody si_BadName) (defScope si_BadName) .none kVI0 dcI0 pmI0 anI0 cdI0 ctI0)) CS :=
    ⟨E0, I0, E1, I1, E2, I2, E3, I3, E4, I4, E5, I5, E6, I6, E7, I7, E8, I8, E9, I9, E10, I10, E11, I11, E12, I12, E13, I13, E14, I14, E15, I15, E16, I16, E17, E18, X17, X18, k1, k2, k3, PySem.W.mg_of X G AS, PySem.W.mg_none_of X G NV⟩
  exact ⟨PySem.W.fnOf "law" "law" (defArgs stlaw) (defBody stlaw) (defScope stlaw) .none kVlaw dclaw pmlaw anlaw cdlaw ctlaw, fun s v => .of_eq rfl, fun base _ _ => oklaw (blt_of X G BT) Es D_law_draw D_law_pick D_law_big D_law_kinds D_law_of_one D_law_of_two D_law_made D_law_name D_law_pen Dlaw⟩

theorem walk {l : PySem.W.OpenLaw} {q : Program} {loose : List Str} {XP : (Str → Option Value) → Heap → Prop} {YP : World → Heap → Prop} {d : DefRec} {K : Params → PySem.W.Frag} (hn : l.most = some 63) (hdf : d.params.defaults = [])
    (hY : ∀ (w : World) (h : Heap), YP w h → (K w.params).In h)
    (F : ∀ (w : World) (mg : Str → Option Value) (fa : Addr) (h : Heap), (K w.params).In h → h.Ns mainGlobals mg → mg d.name = some (.ref fa) → ∃ fd : FuncData, (∀ (s : Shared) (u : Value), BindsTo s fd ⟨[u], []⟩ [("_law_script", u)]) ∧
      ∀ base : Heap, (K w.params).In base → base.Ns mainGlobals mg → FnG l.prog w (K w.params) mg base CX0 5 fa fd ["_law_script"] (spLaw (K w.params))) : PySem.W.WalkO q loose XP YP l.row.toRowW d [] (fun f vs => PySem.call f vs) :=
  walkG (n := 63) (sp := spLaw) hn (by decide) hdf ⟨rfl, by decide, by decide⟩ hY F (fun K H a ns hl _ hS => ⟨a, ns, rfl, hS, hl, fun _ => rfl⟩)
end AL
open PySem PySem.W PyProof.Rows
set_option maxRecDepth 100000 in
set_option maxHeartbeats 0 in
theorem PySem.Challenge.cw_allscales_k02_errors_holds : PySem.Challenge.rw_allscales_k02_errors.Holds := by
  w_on; o_law; k_head; (case hw => w_witness2)
  k_fill
  refine AL.walk (l := PySem.Challenge.rw_allscales_k02_errors) rfl rfl (fun w h Y => PySem.W.kIn_of Y) ?F
  case F =>
    intro w mg fa h KX G hmg
    refine' AL.all_mk KX G hmg ?a_law_pen ?l_law_pen ?c_law_pen ?k_law_pen ?a_law_draw ?l_law_draw ?c_law_draw ?k_law_draw ?a_law_pick ?l_law_pick ?c_law_pick ?k_law_pick ?a_law_big ?l_law_big ?c_law_big ?k_law_big ?a_law_name ?l_law_name ?c_law_name ?k_law_name ?a_law_of_one ?l_law_of_one ?c_law_of_one ?k_law_of_one ?a_law_of_two ?l_law_of_two ?c_law_of_two ?k_law_of_two ?a_law_made ?l_law_made ?c_law_made ?k_law_made ?a_law_kinds ?l_law_kinds ?c_law_kinds ?k_law_kinds ?alaw ?llaw ?claw ?klaw ?A0 ?R0 ?M0 ?B0 ?aI0 ?lI0 ?cI0 ?kI0 ?t0 ?A1 ?R1 ?M1 ?B1 ?aI1 ?lI1 ?cI1 ?kI1 ?t1 ?A2 ?R2 ?M2 ?B2 ?aI2 ?lI2 ?cI2 ?kI2 ?t2 ?A3 ?R3 ?M3 ?B3 ?aI3 ?lI3 ?cI3 ?kI3 ?t3 ?A4 ?R4 ?M4 ?B4 ?aI4 ?lI4 ?cI4 ?kI4 ?t4 ?A5 ?R5 ?M5 ?B5 ?aI5 ?lI5 ?cI5 ?kI5 ?t5 ?A6 ?R6 ?M6 ?B6 ?aI6 ?lI6 ?cI6 ?kI6 ?t6 ?A7 ?R7 ?M7 ?B7 ?aI7 ?lI7 ?cI7 ?kI7 ?t7 ?A8 ?R8 ?M8 ?B8 ?aI8 ?lI8 ?cI8 ?kI8 ?t8 ?A9 ?R9 ?M9 ?B9 ?aI9 ?lI9 ?cI9 ?kI9 ?t9 ?A10 ?R10 ?M10 ?B10 ?aI10 ?lI10 ?cI10 ?kI10 ?t10 ?A11 ?R11 ?M11 ?B11 ?aI11 ?lI11 ?cI11 ?kI11 ?t11 ?A12 ?R12 ?M12 ?B12 ?aI12 ?lI12 ?cI12 ?kI12 ?t12 ?A13 ?R13 ?M13 ?B13 ?aI13 ?lI13 ?cI13 ?kI13 ?t13 ?A14 ?R14 ?M14 ?B14 ?aI14 ?lI14 ?cI14 ?kI14 ?t14 ?A15 ?R15 ?M15 ?B15 ?aI15 ?lI15 ?cI15 ?kI15 ?t15 ?A16 ?R16 ?M16 ?B16 ?aI16 ?lI16 ?cI16 ?kI16 ?t16 ?A17 ?R17 ?M17 ?B17 ?A18 ?R18 ?M18 ?B18 ?AS ?X17 ?X18 ?KT ?BT ?NV
    (case a_law_pen => k_is)
    (case l_law_pen => k_is)
    (case c_law_pen => k_is)
    (case k_law_pen => k_is)
    (case a_law_draw => k_is)
    (case l_law_draw => k_is)
    (case c_law_draw => k_is)
    (case k_law_draw => k_is)
    (case a_law_pick => k_is)
    (case l_law_pick => k_is)
    (case c_law_pick => k_is)
    (case k_law_pick => k_is)
    (case a_law_big => k_is)
    (case l_law_big => k_is)
    (case c_law_big => k_is)
    (case k_law_big => k_is)
    (case a_law_name => k_is)
    (case l_law_name => k_is)
    (case c_law_name => k_is)
    (case k_law_name => k_is)
    (case a_law_of_one => k_is)
    (case l_law_of_one => k_is)
    (case c_law_of_one => k_is)
    (case k_law_of_one => k_is)
    (case a_law_of_two => k_is)
    (case l_law_of_two => k_is)
    (case c_law_of_two => k_is)
    (case k_law_of_two => k_is)
    (case a_law_made => k_is)
    (case l_law_made => k_is)
    (case c_law_made => k_is)
    (case k_law_made => k_is)
    (case a_law_kinds => k_is)
    (case l_law_kinds => k_is)
    (case c_law_kinds => k_is)
    (case k_law_kinds => k_is)
    (case alaw => k_is)
    (case llaw => k_is)
    (case claw => k_is)
    (case klaw => k_is)
    (case A0 => k_is)
    (case R0 => k_is)
    (case M0 => decide +kernel)
    (case B0 => kernel_rfl)
    (case aI0 => k_is)
    (case lI0 => k_is)
    (case cI0 => k_is)
    (case kI0 => k_is)
    (case t0 => k_is)
    (case A1 => k_is)
    (case R1 => k_is)
    (case M1 => decide +kernel)
    (case B1 => kernel_rfl)
    (case aI1 => k_is)
    (case lI1 => k_is)
    (case cI1 => k_is)
    (case kI1 => k_is)
    (case t1 => k_is)
    (case A2 => k_is)
    (case R2 => k_is)
    (case M2 => decide +kernel)
    (case B2 => kernel_rfl)
    (case aI2 => k_is)
    (case lI2 => k_is)
    (case cI2 => k_is)
    (case kI2 => k_is)
    (case t2 => k_is)
    (case A3 => k_is)
    (case R3 => k_is)
    (case M3 => decide +kernel)
    (case B3 => kernel_rfl)
    (case aI3 => k_is)
    (case lI3 => k_is)
    (case cI3 => k_is)
    (case kI3 => k_is)
    (case t3 => k_is)
    (case A4 => k_is)
    (case R4 => k_is)
    (case M4 => decide +kernel)
    (case B4 => kernel_rfl)
    (case aI4 => k_is)
    (case lI4 => k_is)
    (case cI4 => k_is)
    (case kI4 => k_is)
    (case t4 => k_is)
    (case A5 => k_is)
    (case R5 => k_is)
    (case M5 => decide +kernel)
    (case B5 => kernel_rfl)
    (case aI5 => k_is)
    (case lI5 => k_is)
    (case cI5 => k_is)
    (case kI5 => k_is)
    (case t5 => k_is)
    (case A6 => k_is)
    (case R6 => k_is)
    (case M6 => decide +kernel)
    (case B6 => kernel_rfl)
    (case aI6 => k_is)
    (case lI6 => k_is)
    (case cI6 => k_is)
    (case kI6 => k_is)
    (case t6 => k_is)
    (case A7 => k_is)
    (case R7 => k_is)
    (case M7 => decide +kernel)
    (case B7 => kernel_rfl)
    (case aI7 => k_is)
    (case lI7 => k_is)
    (case cI7 => k_is)
    (case kI7 => k_is)
    (case t7 => k_is)
    (case A8 => k_is)
    (case R8 => k_is)
    (case M8 => decide +kernel)
    (case B8 => kernel_rfl)
    (case aI8 => k_is)
    (case lI8 => k_is)
    (case cI8 => k_is)
    (case kI8 => k_is)
    (case t8 => k_is)
    (case A9 => k_is)
    (case R9 => k_is)
    (case M9 => decide +kernel)
    (case B9 => kernel_rfl)
    (case aI9 => k_is)
    (case lI9 => k_is)
    (case cI9 => k_is)
    (case kI9 => k_is)
    (case t9 => k_is)
    (case A10 => k_is)
    (case R10 => k_is)
    (case M10 => decide +kernel)
    (case B10 => kernel_rfl)
    (case aI10 => k_is)
    (case lI10 => k_is)
    (case cI10 => k_is)
    (case kI10 => k_is)
    (case t10 => k_is)
    (case A11 => k_is)
    (case R11 => k_is)
    (case M11 => decide +kernel)
    (case B11 => kernel_rfl)
    (case aI11 => k_is)
    (case lI11 => k_is)
    (case cI11 => k_is)
    (case kI11 => k_is)
    (case t11 => k_is)
    (case A12 => k_is)
    (case R12 => k_is)
    (case M12 => decide +kernel)
    (case B12 => kernel_rfl)
    (case aI12 => k_is)
    (case lI12 => k_is)
    (case cI12 => k_is)
    (case kI12 => k_is)
    (case t12 => k_is)
    (case A13 => k_is)
    (case R13 => k_is)
    (case M13 => decide +kernel)
    (case B13 => kernel_rfl)
    (case aI13 => k_is)
    (case lI13 => k_is)
    (case cI13 => k_is)
    (case kI13 => k_is)
    (case t13 => k_is)
    (case A14 => k_is)
    (case R14 => k_is)
    (case M14 => decide +kernel)
    (case B14 => kernel_rfl)
    (case aI14 => k_is)
    (case lI14 => k_is)
    (case cI14 => k_is)
    (case kI14 => k_is)
    (case t14 => k_is)
    (case A15 => k_is)
    (case R15 => k_is)
    (case M15 => decide +kernel)
    (case B15 => kernel_rfl)
    (case aI15 => k_is)
    (case lI15 => k_is)
    (case cI15 => k_is)
    (case kI15 => k_is)
    (case t15 => k_is)
    (case A16 => k_is)
    (case R16 => k_is)
    (case M16 => decide +kernel)
    (case B16 => kernel_rfl)
    (case aI16 => k_is)
    (case lI16 => k_is)
    (case cI16 => k_is)
    (case kI16 => k_is)
    (case t16 => k_is)
    (case A17 => k_is)
    (case R17 => k_is)
    (case M17 => decide +kernel)
    (case B17 => kernel_rfl)
    (case A18 => k_is)
    (case R18 => k_is)
    (case M18 => decide +kernel)
    (case B18 => kernel_rfl)
    (case AS => k_is)
    (case X17 => kernel_rfl)
    (case X18 => kernel_rfl)
    (case KT => kernel_rfl)
    (case BT => kernel_rfl)
    (case NV => k_is)
#print axioms PySem.Challenge.cw_allscales_k02_errors_holds
