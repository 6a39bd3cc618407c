import PyProof.Rows.All
import Wide.All
import OpenK.AllK
import Wide.FinOn
import HandS.ForMost
import HandS.IsInst
import HandS.ExcInit
import HandS.ExcValue
import HandS.ExcField
import HandS.ExcIs
import HandS.Evl
import HandS.ForExc
import HandS.TryMany
import HandS.Wide
import HandS.Gcd
import HandS.Codes
import HandS.StrMore
import PyProof.TupleOfStr
import HandS.Flow
import PySem.Challenge.RW_allscales_k00_ratio_texts
set_option Elab.async false
set_option maxRecDepth 100000
/-! The pen that the laws draw from: a dict with five entries over a copy of the script. -/
namespace AL
open PySem L2

/-- all but what stands at p stays -/
def Keep (p : Addr) (H H' : Hp) : Prop := ∀ b o, b ≠ p → H b = some o → H' b = some o
theorem Keep.refl (p : Addr) (H : Hp) : Keep p H H := fun _ _ _ h => h
theorem Keep.trans {p : Addr} {H H1 H2 : Hp} (a : Keep p H H1) (b : Keep p H1 H2) : Keep p H H2 := fun c o n h => b c o n (a c o n h)
theorem Keep.upd {p : Addr} {H : Hp} {o : HO} : Keep p H (upd H p o) := fun b u n e => by rw [upd_ne n]; exact e
theorem Keep.new {p q : Addr} {H : Hp} {o : HO} (h : H q = none) : Keep p H (L2.upd H q o) := fun b u _ e => by
  rw [upd_ne (ne_of_none e h)]; exact e

def penK (c : Addr) (i d n f : Int) : List (Key × V) :=
  [(.inr "cells", .ref c), (.inr "at", .int i), (.inr "digits", .int d), (.inr "count", .int n), (.inr "fold", .int f)]
section
variable {c : Addr} {i d n f x : Int}
theorem pen_cells : valV (penK c i d n f) (Sum.inr "cells" : Key) = some (.ref c) := by kernel_rfl
theorem pen_at : valV (penK c i d n f) (Sum.inr "at" : Key) = some (.int i) := by kernel_rfl
theorem pen_digits : valV (penK c i d n f) (Sum.inr "digits" : Key) = some (.int d) := by kernel_rfl
theorem pen_count : valV (penK c i d n f) (Sum.inr "count" : Key) = some (.int n) := by kernel_rfl
theorem pen_fold : valV (penK c i d n f) (Sum.inr "fold" : Key) = some (.int f) := by kernel_rfl
theorem put_at : putK (penK c i d n f) (Sum.inr "at" : Key) (.int x) = penK c x d n f := by kernel_rfl
theorem put_digits : putK (penK c i d n f) (Sum.inr "digits" : Key) (.int x) = penK c i x n f := by kernel_rfl
theorem put_count : putK (penK c i d n f) (Sum.inr "count" : Key) (.int x) = penK c i d x f := by kernel_rfl
theorem put_fold : putK (penK c i d n f) (Sum.inr "fold" : Key) (.int x) = penK c i d n x := by kernel_rfl
theorem pen_len : (penK c i d n f).length = 5 := rfl
end
/-- a pen stands at p, its cells at c; it has drawn at most m times -/
structure Pen (H : Hp) (p c : Addr) (m : Nat) : Prop where
  ex : ∃ (ns : List Int) (i d n f : Int), H p = some (.dK (penK c i d n f)) ∧ H c = some (.lst (ns.map V.int)) ∧ 0 ≤ i ∧ 0 ≤ d ∧ 0 ≤ n ∧ n ≤ (m : Int) ∧ 0 ≤ f ∧ f < 2147483648
theorem Pen.mono {H : Hp} {p c : Addr} {m m' : Nat} (h : Pen H p c m) (l : m ≤ m') : Pen H p c m' := by
  obtain ⟨ns, i, d, n, f, h1, h2, h3, h4, h5, h6, h7, h8⟩ := h.ex
  exact ⟨ns, i, d, n, f, h1, h2, h3, h4, h5, by omega, h7, h8⟩
theorem Pen.keep {H H' : Hp} {p c : Addr} {m : Nat} (h : Pen H p c m) (k1 : ∀ o, H p = some o → H' p = some o) (k2 : ∀ o, H c = some o → H' c = some o) : Pen H' p c m := by
  obtain ⟨ns, i, d, n, f, h1, h2, hr⟩ := h.ex
  exact ⟨ns, i, d, n, f, k1 _ h1, k2 _ h2, hr⟩
theorem Pen.same {H H' : Hp} {p c : Addr} {m : Nat} (h : Pen H p c m) (k : Same H H') : Pen H' p c m := h.keep (fun o e => k _ o e) fun o e => k _ o e
theorem Pen.dict {H : Hp} {p c : Addr} {m : Nat} (h : Pen H p c m) : ∃ kvs, H p = some (.dK kvs) := by
  obtain ⟨ns, i, d, n, f, h1, _⟩ := h.ex
  exact ⟨_, h1⟩
/-- what is no dict and stands, stays -/
theorem Keep.rd {p a : Addr} {H H' : Hp} {kvs : List (Key × V)} {u : HO} (k : Keep p H H') (hp : H p = some (.dK kvs)) (h : Rd H a u) (hu : ∀ l, u ≠ .dK l) : Rd H' a u := by
  rcases h with h | ⟨o, h⟩
  · exact .inl (k a _ (fun z => by rw [z, hp] at h; exact hu _ (Option.some.inj h).symm) h)
  · exact .inr ⟨o, k a _ (fun z => by rw [z, hp] at h; cases h) h⟩
theorem Keep.seqL {K : PySem.W.Frag} {p c a : Addr} {m : Nat} {H H' : Hp} {xs : List V} (k : Keep p H H') (hp : Pen H p c m) (h : SqL K H a xs) : SqL K H' a xs := by
  obtain ⟨kvs, hk⟩ := hp.dict
  rcases h with h | h
  · exact .inl (k.rd hk h (fun l z => by cases z))
  · exact .inr h
theorem Keep.seqT {K : PySem.W.Frag} {p c a : Addr} {m : Nat} {H H' : Hp} {xs : List V} (k : Keep p H H') (hp : Pen H p c m) (h : SqT K H a xs) : SqT K H' a xs := by
  obtain ⟨kvs, hk⟩ := hp.dict
  rcases h with h | h
  · exact .inl (k.rd hk h (fun l z => by cases z))
  · exact .inr h
theorem Keep.at {p c a : Addr} {m : Nat} {H H' : Hp} {o : HO} (k : Keep p H H') (hp : Pen H p c m) (h : H a = some o) (hu : ∀ l, o ≠ .dK l) : H' a = some o := by
  obtain ⟨kvs, hk⟩ := hp.dict
  exact k a _ (fun z => by rw [z, hk] at h; exact hu _ (Option.some.inj h).symm) h
theorem Keep.free {p c a : Addr} {m : Nat} {H H' : Hp} (k : Keep p H H') (hp : Pen H p c m) (hp' : Pen H' p c m) (h : H' a = none) : H a = none := by
  cases e : H a with
  | none => rfl
  | some o =>
    by_cases z : a = p
    · obtain ⟨kvs, hk⟩ := hp'.dict
      rw [z, hk] at h; cases h
    · rw [k a o z e] at h; cases h

/-- a def of the module's top, as it stands behind the top -/
structure DefAt (K : PySem.W.Frag) (mg : Str → Option Value) (x : Str) (st : Stmt) (ps : List Str) (f : Addr) (fd : FuncData) : Prop where
  F : Fun K x x st f fd
  m : mg x = some (.ref f)
  b : Binds K fd ps []
/-! ### the promises -/
/-- _law_pen(script) -/
def spPen (K : PySem.W.Frag) : Sp := fun vs H Q _ => ∃ (a : Addr) (ns : List Int), vs = [.ref a] ∧ SqL K H a (ns.map V.int) ∧ ∀ (p c : Addr) (H' : Hp), H p = none → H c = none → p ≠ c → Pen H' p c 0 → Same H H' → Q (.ref p) H'
/-- _law_draw(pen, many) -/
def spDraw : Sp := fun vs H Q _ => ∃ (p c : Addr) (m : Nat) (k : Int), vs = [.ref p, .int k] ∧ Pen H p c m ∧ m < 1000000000 ∧ 0 < k ∧ k < 1000000000 ∧
  ∀ (r : Int) (H' : Hp), 0 ≤ r → r < k → Pen H' p c (m + 1) → Keep p H H' → Q (.int r) H'
/-- _law_pick(pen, some), some a list -/
def spPick (K : PySem.W.Frag) : Sp := fun vs H Q _ => ∃ (p c a : Addr) (m : Nat) (xs : List V), vs = [.ref p, .ref a] ∧ Pen H p c m ∧ m < 1000000000 ∧ SqL K H a xs ∧ 0 < xs.length ∧ xs.length < 1000000000 ∧
  ∀ (j : Nat) (x : V) (H' : Hp), xs[j]? = some x → Pen H' p c (m + 1) → Keep p H H' → Q x H'
end AL
namespace AL
open PySem L2
theorem dget {H : Hp} {a : Addr} {kvs : List (Key × V)} {k : Key} {v : V} (h : H a = some (.dK kvs)) (e : valV kvs k = some v) : DGet H a (kV k) (some v) := by
  rw [← e]; exact DGet.k h
theorem dput {H : Hp} {a : Addr} {kvs kvs' : List (Key × V)} {k : Key} {v : V} (h : H a = some (.dK kvs)) (hl : kvs.length < sizeLine) (e : putK kvs k v = kvs') : DPut H a (kV k) v (upd H a (.dK kvs')) := by
  rw [← e]; exact DPut.k h hl
theorem fmod_in {a b : Int} (h : 0 < b) : 0 ≤ a.fmod b ∧ a.fmod b < b := by
  rw [Int.fmod_eq_emod_of_nonneg a (Int.le_of_lt h)]
  exact ⟨Int.emod_nonneg _ (by omega), Int.emod_lt_of_pos _ h⟩
theorem fdiv_nn {a b : Int} (ha : 0 ≤ a) (h : 0 < b) : 0 ≤ a.fdiv b := by
  rw [Int.fdiv_eq_ediv_of_nonneg a (Int.le_of_lt h)]
  exact Int.ediv_nonneg ha (Int.le_of_lt h)
theorem map_int {ns : List Int} {i : Nat} {y : V} (hi : (ns.map V.int)[i]? = some y) : ∃ z, ns[i]? = some z ∧ y = V.int z := by
  rw [List.getElem?_map] at hi
  cases e : ns[i]? with
  | none => rw [e] at hi; cases hi
  | some z => rw [e] at hi; exact ⟨z, rfl, (Option.some.inj hi).symm⟩
theorem Same.new {H : Hp} {p : Addr} {o : HO} (h : H p = none) : Same H (upd H p o) := fun b u e => by
  rw [upd_ne (ne_of_none e h)]; exact e
end AL
namespace AL
open PySem L2
/-- the built-in names that the top leaves alone -/
def bltNames : List Str := ["abs", "all", "any", "bool", "dict", "enumerate", "int", "isinstance", "len", "list", "max", "min", "range", "repr", "reversed", "set", "sorted", "str", "sum", "tuple", "zip"]
structure Blt (mg : Str → Option Value) : Prop where
  abs_ : mg "abs" = none
  all_ : mg "all" = none
  any_ : mg "any" = none
  bool_ : mg "bool" = none
  dict_ : mg "dict" = none
  enumerate_ : mg "enumerate" = none
  int_ : mg "int" = none
  isinstance_ : mg "isinstance" = none
  len_ : mg "len" = none
  list_ : mg "list" = none
  max_ : mg "max" = none
  min_ : mg "min" = none
  range_ : mg "range" = none
  repr_ : mg "repr" = none
  reversed_ : mg "reversed" = none
  set_ : mg "set" = none
  sorted_ : mg "sorted" = none
  str_ : mg "str" = none
  sum_ : mg "sum" = none
  tuple_ : mg "tuple" = none
  zip_ : mg "zip" = none
def bltB (K : PySem.W.Frag) : Bool := bltNames.all fun x => decide (PySem.W.nsIn K mainGlobals x = some none)
theorem blt_of {K : PySem.W.Frag} {h : Heap} {mg : Str → Option Value} (X : K.In h) (G : h.Ns mainGlobals mg) (b : bltB K = true) : Blt mg := by
  unfold bltB at b
  have all : ∀ x ∈ bltNames, mg x = none := fun x hx => PySem.W.mg_none_of X G (of_decide_eq_true (List.all_eq_true.mp b x hx))
  exact ⟨all _ (by simp [bltNames]), all _ (by simp [bltNames]), all _ (by simp [bltNames]), all _ (by simp [bltNames]), all _ (by simp [bltNames]), all _ (by simp [bltNames]), all _ (by simp [bltNames]), all _ (by simp [bltNames]), all _ (by simp [bltNames]), all _ (by simp [bltNames]), all _ (by simp [bltNames]), all _ (by simp [bltNames]), all _ (by simp [bltNames]), all _ (by simp [bltNames]), all _ (by simp [bltNames]), all _ (by simp [bltNames]), all _ (by simp [bltNames]), all _ (by simp [bltNames]), all _ (by simp [bltNames]), all _ (by simp [bltNames]), all _ (by simp [bltNames])⟩
end AL
set_option Elab.async false
set_option maxRecDepth 100000
namespace AL
open PySem L2 PySem.NumText
theorem digitsVal_app (a b : List Nat) : digitsVal (a ++ b) = digitsVal a * 10 ^ b.length + digitsVal b := by
  have key : ∀ (n : Nat) (b : List Nat), b.length = n → digitsVal (a ++ b) = digitsVal a * 10 ^ b.length + digitsVal b := by
    intro n
    induction n with
    | zero =>
      intro b hb
      have : b = [] := List.length_eq_zero_iff.mp hb
      subst this
      simp [digitsVal]
    | succ n ih =>
      intro b hb
      have hne : b ≠ [] := fun z => by rw [z] at hb; cases hb
      obtain ⟨i, c, rfl⟩ : ∃ i c, b = i ++ [c] := ⟨b.dropLast, b.getLast hne, (List.dropLast_concat_getLast hne).symm⟩
      have hi : i.length = n := by simpa using hb
      rw [← List.append_assoc, digitsVal_snoc, ih i hi, digitsVal_snoc, List.length_append, List.length_singleton, Nat.pow_succ, Nat.add_mul, Nat.mul_assoc]
      omega
  exact key _ b rfl
theorem digitsVal_lt : ∀ (n : Nat) (b : List Nat), b.length = n → AllDigits b → digitsVal b < 10 ^ n
  | 0, b, hl, _ => by
    have : b = [] := List.length_eq_zero_iff.mp hl
    subst this; decide
  | n + 1, b, hl, h => by
    cases b with
    | nil => simp at hl
    | cons c b =>
      have hc := h.head
      have ih := digitsVal_lt n b (by simpa using hl) h.tail
      have e := digitsVal_app [c] b
      rw [List.singleton_append] at e
      have e1 : digitsVal [c] = c - 48 := by show 0 * 10 + (c - 48) = c - 48; omega
      have hl' : b.length = n := by simpa using hl
      rw [e, e1, hl', Nat.pow_succ]
      have : (c - 48) * 10 ^ n ≤ 9 * 10 ^ n := Nat.mul_le_mul_right _ (by omega)
      omega
/-- the last k signs of a number's text -/
theorem last_digits {n k : Nat} (hk : 0 < k) (hl : (TL.numL n).length ≤ 640) :
    (cutS (Str.ofString (toString ((n : Nat) : Int))) (some (-(k : Int))) none).length ≤ 640 ∧
    intText? (cutS (Str.ofString (toString ((n : Nat) : Int))) (some (-(k : Int))) none) = some ((n % 10 ^ k : Nat) : Int) := by
  have htl : (Str.ofString (toString ((n : Nat) : Int))).cps.toList = TL.numL n := TL.tl_num n
  have hlen : (Str.ofString (toString ((n : Nat) : Int))).length = (TL.numL n).length := by rw [TL.len_tl]; exact congrArg List.length (TL.tl_num n)
  have e : (cutS (Str.ofString (toString ((n : Nat) : Int))) (some (-(k : Int))) none).cps.toList = (TL.numL n).drop ((TL.numL n).length - k) := by
    unfold cutS
    rw [htl, hlen]
    have h1 : HT.sIx (TL.numL n).length 0 (some (-(k : Int))) = (TL.numL n).length - k := by
      show (if (-(k : Int)) < 0 then ((-(k : Int)) + ((TL.numL n).length : Int)).toNat else _) = _
      rw [if_pos (by omega)]
      omega
    have h2 : HT.sIx (TL.numL n).length (TL.numL n).length none = (TL.numL n).length := by
      unfold HT.sIx
      simp
    rw [h1, h2]
    simp
    apply List.take_of_length_le
    simp
  have hd := TL.numL_digits n
  have hne := TL.numL_ne n
  have hv := TL.numL_val n
  generalize TL.numL n = l at *
  have hl0 : 0 < l.length := List.length_pos_iff.mpr hne
  have len : (cutS (Str.ofString (toString ((n : Nat) : Int))) (some (-(k : Int))) none).length = (l.drop (l.length - k)).length := by
    rw [← e]; exact Array.length_toList.symm
  have hle : (l.drop (l.length - k)).length ≤ k := by rw [List.length_drop]; omega
  have hdd : AllDigits (l.drop (l.length - k)) := fun c hc => hd c (List.mem_of_mem_drop hc)
  refine ⟨by rw [len, List.length_drop]; omega, ?_⟩
  rw [intText_digits (by rw [e]; exact hdd) (by rw [e]; intro z; have := congrArg List.length z; rw [List.length_drop] at this; simp at this; omega) (by rw [len, List.length_drop]; omega), e]
  congr 2
  have hap := digitsVal_app (l.take (l.length - k)) (l.drop (l.length - k))
  rw [List.take_append_drop, hv] at hap
  have hlt := digitsVal_lt _ _ rfl hdd
  by_cases hkl : k ≤ l.length
  · have : (l.drop (l.length - k)).length = k := by rw [List.length_drop]; omega
    rw [this] at hap hlt
    rw [hap, Nat.mul_comm, Nat.mul_add_mod, Nat.mod_eq_of_lt hlt]
  · have z : l.length - k = 0 := by omega
    rw [z] at hap hlt ⊢
    simp [digitsVal] at hap
    have : n < 10 ^ k := Nat.lt_of_lt_of_le (by rw [List.drop_zero] at hlt; rw [← hv]; exact hlt) (Nat.pow_le_pow_right (by decide) (by omega))
    rw [List.drop_zero, hv, Nat.mod_eq_of_lt this]
end AL
namespace AL
open PySem L2 PySem.NumText
theorem log2_small {n k : Nat} (hk : 0 < k) (h : n < 2 ^ k) : n.log2 < k := by
  by_cases z : n = 0
  · subst z; simpa using hk
  · exact (Nat.log2_lt z).mpr h
theorem pow402 : (10 : Nat) ^ 402 < 2 ^ 1920 := by decide +kernel
theorem thousand (i : Nat) : (1000 : Nat) ^ i = 10 ^ (3 * i) := by rw [Nat.pow_mul]
/-- _law_big(pen, figures) -/
def spBig : Sp := fun vs H Q _ => ∃ (p c : Addr) (m : Nat) (k : Nat), vs = [.ref p, .int (k : Int)] ∧ Pen H p c m ∧ m < 900000000 ∧ 0 < k ∧ k ≤ 400 ∧
  ∀ (r : Nat) (H' : Hp), r < 10 ^ k → Pen H' p c (m + 200) → Keep p H H' → Q (.int (r : Int)) H'
/-- _law_name(pen, used), used a new empty list -/
def spName0 : Sp := fun vs H Q _ => ∃ (p c a : Addr) (m : Nat), vs = [.ref p, .ref a] ∧ Pen H p c m ∧ a ≠ c ∧ m < 900000000 ∧ H a = some (.lst []) ∧
  ∀ (z : Str) (H' : Hp), z.length ≤ 8 → (∀ c ∈ z.cps.toList, c < 128) → Pen H' p c (m + 200) → Keep p (upd H a (.lst [.str z])) H' → Q (.str z) H'
theorem app_tl {z : Str} {c : Nat} : (z ++ (⟨#[c]⟩ : Str)).cps.toList = z.cps.toList ++ [c] := by
  show (z.cps ++ #[c]).toList = _
  rw [Array.toList_append]
theorem pick_of {xs : List V} {P : V → Prop} (h : ∀ x ∈ xs, P x) {j : Nat} {x : V} (e : xs[j]? = some x) : P x := h x (List.mem_of_getElem? e)
end AL
set_option Elab.async false
set_option maxRecDepth 100000
set_option maxHeartbeats 2000000
/-! Defs that ask repr: their promises hold where no repr is under way. -/
namespace AL
open PySem PySem.Spec PyProof.Rows L2

/-- a def's promise, kept wherever no guard stands around -/
structure FnG (P : Program) (w : World) (K : PySem.W.Frag) (mg : Str → Option Value) (base : Heap) (CX : CXT) (k : Nat) (f : Addr) (fd : FuncData) (ps : List Str) (sp : Sp) : Prop where
  len : ∀ xs H Q E, sp xs H Q E → xs.length = ps.length
  run : ∀ (A : Around) (ol : List Env) (s : Shared) (H : Hp) (ar : Args) (us : List Value) (xs : List V) (Q : VK) (E : XK), A.guards = some [] → Room k A → Env0 P w K mg base A ol s H →
    BindsTo s fd ar (ps.zip us) → Vals xs us → sp xs H Q E → codeAny (model P w) A (.call (.ref f) ar) (CR CX ol P w H s Q E) s

theorem FnG.of {P : Program} {w : World} {K : PySem.W.Frag} {mg : Str → Option Value} {base : Heap} {CX : CXT} {k : Nat} {f : Addr} {fd : FuncData} {ps : List Str} {sp : Sp}
    (F : FnOk P w K mg base CX k f fd ps sp) : FnG P w K mg base CX k f fd ps sp :=
  ⟨F.len, fun A ol s H ar us xs Q E _ r e b v h => F.run A ol s H ar us xs Q E r e b v h⟩

/-- a def of the text, by its body -/
theorem okGX {P : Program} {w : World} {K : PySem.W.Frag} {mg : Str → Option Value} {base : Heap} {x qual : Str} {st : Stmt} {f : Addr} {fd : FuncData} {N ps : List Str} {CX : CXT} {k : Nat} {sp : Sp}
    (F : Fun K x qual st f fd) (S : FnScope N ps (defScope st)) (len : ∀ xs H Q E, sp xs H Q E → xs.length = ps.length)
    (body : ∀ (cv : Value) (A : Around) (ol : List Env) (s : Shared) (H : Hp) (xs : List V) (Q : VK) (E : XK), A.guards = some [] → Room k (A.deeper (envOfC qual (defScope st) s.heap.objs.size f cv)) →
      sp xs H Q E → ∃ t, PSs (cxOf CX P w K mg base N qual (defScope st) f cv A ol s H E) (defBody st) t ∧ t { nx := fun _ H' => Q .non H', rt := Q } (start N xs) H) :
    FnG P w K mg base CX (k + 1) f fd ps sp := by
  obtain ⟨c0, d0, kw0, dc0, pm0, an0, cv, ct0, sl0, efd, look, code⟩ := F.ex
  subst efd
  constructor
  · exact len
  · intro A ol s H ar us xs Q E gd room e0 bd vals wish
    have here : K.In s.heap := e0.mod.kin.keeps fun b o z => (e0.bs b o z).1
    have free : s.heap.NoLimit := e0.mod.nolimit.keeps fun b o z => (e0.bs b o z).1
    have kinds : ∀ y ∈ ps.zip us, (defScope st).names.lookup y.1 = some .local ∨ ((defScope st).names.lookup y.1 = some .cell ∧ ((cellsFrom (s.heap.objs.size + 1) (defScope st).names []).lookup y.1).isSome = true) := by
      rintro ⟨n, v⟩ hy
      cases S.par n (List.of_mem_zip hy).1 with
      | inl q => exact .inl q
      | inr q => exact .inr ⟨q, PySem.W.cellsFrom_some _ _ _ (.inl q)⟩
    refine codeAny_call_function room.depth (here _ _ look) rfl S.co S.gen rfl (PySem.W.codeRec_of here code) (bd _ _ _ _ (wpAny_newFunctionEnv_cells S.kind kinds fun env hv s1 ic => ?_))
    subst hv
    refine ⟨free.keeps ic.toInCall.keep, codeAny_func ?_⟩
    obtain ⟨t, run, rd⟩ := body cv A ol s H xs Q E gd (room.deeper _) wish
    have I0 := inv_start (CX := CX) (P := P) (w := w) (cd := cv) (E := E) S room.hd e0 (len _ _ _ _ wish) vals ic
    refine wpAny_mono (run.run [] s1 _ H _ I0 rd) (fun fl s2 z => ?_) fun _ _ z => z
    cases fl with
    | brk => obtain ⟨_, _, _, no⟩ := z; exact no.elim
    | cont => obtain ⟨_, _, _, no⟩ := z; exact no.elim
    | next =>
      obtain ⟨σ2, H2, J, q⟩ := z
      exact ⟨V.non, H2, J.os, J.bare, J.base, J.hok, rfl, q⟩
    | ret u =>
      obtain ⟨v, σ2, H2, J, rv, q⟩ := z
      exact ⟨v, H2, J.os, J.bare, J.base, J.hok, rv, q⟩

/-- .. of which nothing that is raised leaves it -/
theorem okG {P : Program} {w : World} {K : PySem.W.Frag} {mg : Str → Option Value} {base : Heap} {x qual : Str} {st : Stmt} {f : Addr} {fd : FuncData} {N ps : List Str} {k : Nat} {sp : Sp}
    (F : Fun K x qual st f fd) (S : FnScope N ps (defScope st)) (len : ∀ xs H Q E, sp xs H Q E → xs.length = ps.length)
    (body : ∀ (cv : Value) (A : Around) (ol : List Env) (s : Shared) (H : Hp) (xs : List V) (Q : VK) (E : XK), A.guards = some [] → Room k (A.deeper (envOfC qual (defScope st) s.heap.objs.size f cv)) →
      sp xs H Q E → ∃ t, PSs (cxOf CX0 P w K mg base N qual (defScope st) f cv A ol s H E).nox (defBody st) t ∧ t { nx := fun _ H' => Q .non H', rt := Q } (start N xs) H) :
    FnG P w K mg base CX0 (k + 1) f fd ps sp := by
  refine okGX F S len fun cv A ol s H xs Q E gd room wish => ?_
  obtain ⟨t, run, rd⟩ := body cv A ol s H xs Q E gd room wish
  exact ⟨t, run.nox, rd⟩

section
variable {X : Cx} {CX : CXT} {k : Nat} {f : Addr} {fd : FuncData} {ps : List Str} {sp : Sp} {E : XK} {x : Str} {p pos : Pos} {e : Expr} {es : List Expr} {t : TA}
/-- f(e, ..) where no guard stands -/
theorem pe_callG (F : FnG X.prog X.w X.K X.mg X.base CX k f fd ps sp) (gd : X.A.guards = some []) (room : Room k X.A) (hg : Gl X x) (hm : X.mg x = some (.ref f)) (kp : PySem.W.keepIn X.K (.ref f) = true) (hb : Binds X.K fd ps [])
    (out : Passes CX X E) (ha : PA X (e :: es) t) (nd : (x == ("__debug__" : Str)) = false := by decide) (s1 : starEach (e :: es) X.env = (false, eval e X.env) :: starEach es X.env := by rfl)
    (s2 : (backTo pos (starEach es X.env)).any (·.1) = false := by rfl) : PE X (.Call (.Name x p) (e :: es) [] pos) (tCall sp [] E t) := by
  constructor
  intro pins s σ H Q I h
  refine wpAny_Call_Name_kw (ld_glob I hg hm (PySem.W.callWith_K (h₀ := X.base) I.ok.mod.kin kp ?_ s1 s2) nd)
  refine thn (ha.run pos pins s σ H _ I h) fun us s3 ⟨xs, H3, J, rv, q⟩ => ⟨J.kIn, ?_⟩
  have q' : sp xs H3 Q E := by
    have z : sp (xs ++ []) H3 Q E := q
    rw [List.append_nil] at z
    exact z
  have len : us.length = ps.length := by rw [← rv.length]; exact F.len _ _ _ _ q'
  have bd : BindsTo s3 fd ⟨us, []⟩ (ps.zip us) := by
    have z := hb s3 us J.kIn (by rw [List.append_nil]; exact len)
    rw [List.append_nil] at z
    exact z
  refine wpAny_call (codeAny_mono (F.run X.A X.stack s3 H3 ⟨us, []⟩ us xs Q E gd room J.env0 bd rv q') fun r s4 z => ?_)
  cases r with
  | error er => exact out pins σ H3 s3 er s4 J z
  | ok fl =>
    cases fl with
    | ret u => exact J.after z
    | next => exact z.elim
    | brk => exact z.elim
    | cont => exact z.elim
end

/-! ### repr of data -/
/-- repr(x), x a list or a tuple of data -/
def rRepr (K : PySem.W.Frag) : List V → Hp → VK → Prop := fun vs H Q => ∃ (a : Addr) (d : PyData), vs = [.ref a] ∧ Dp K H (.ref a) d ∧ d.showable = true ∧ d.hasDict = false ∧ d.depth ≤ 60 ∧ d.shown.length ≤ sizeLine ∧ Q (.str d.shown) H
theorem call_reprD {X : Cx} (gd : X.A.guards = some []) (hu : X.A.units + 64 < cLine) : CallR X (.builtin "repr") (rRepr X.K) := by
  intro pins s σ H vs us Q I r h
  obtain ⟨a, d, rfl, hd, h1, h2, h3, h4, q⟩ := h
  obtain ⟨u, rfl, ru⟩ := vals1 r
  obtain rfl : u = Value.ref a := ru
  obtain ⟨as, rd⟩ := Dp.reads I d (.ref a) (.ref a) hd rfl
  exact repr_of_reads' rd h1 (PyData.noDict_hsm h2) gd (by omega) (fun _ _ z => z) (fun h' u tk kk => ⟨.str d.shown, H, I.kept (t' := tk) kk, ⟨u, rfl⟩, q⟩) h4
end AL
set_option Elab.async false
set_option maxRecDepth 100000
set_option maxHeartbeats 2000000
/-! The end of a law whose def asks repr. -/
namespace AL
open PySem PySem.Spec PyProof.Rows L2
/-- the script's own object -/
def scrO (us : List Value) : Obj := { cls := .type "list", data := .seq us.toArray }
/-- the heap at the law's entry: the script alone, locked (or nothing, where it is the module's own) -/
def scrH (K : PySem.W.Frag) (a : Addr) (us : List Value) (ns : List Int) : Hp := fun b => if b = a ∧ K.lookup a = none then some (.frz (scrO us) (.lst (ns.map V.int))) else none
theorem scrH_some {K : PySem.W.Frag} {a b : Addr} {us : List Value} {ns : List Int} {u : HO} (h : scrH K a us ns b = some u) : b = a ∧ K.lookup a = none ∧ u = .frz (scrO us) (.lst (ns.map V.int)) := by
  unfold scrH at h
  split at h
  · rename_i c
    exact ⟨c.1, c.2, (Option.some.inj h).symm⟩
  · cases h
theorem lawG {P : Program} {w : World} {K : PySem.W.Frag} {mg mb : Str → Option Value} {CX : CXT} {k : Nat} {fa a : Addr} {fd : FuncData} {x : Str} {sp : Sp} {t : Shared} {us : List Value} {ns : List Int}
    (kin : K.In t.heap) (glb : t.heap.Ns mainGlobals mg) (blt : t.heap.Ns builtinsNs mb) (boot : ∀ y : Str, y ≠ "__name__" → mb y = bootBuiltins y) (free : t.heap.NoLimit) (noG : t.gens = #[])
    (at_a : t.heap.get? a = some (scrO us)) (isI : IntsAre us ns) (short : ns.length ≤ sizeLine) (room : Room k callerA)
    (F : ∀ base : Heap, K.In base → base.Ns mainGlobals mg → FnG P w K mg base CX k fa fd [x] sp) (bind : ∀ (s : Shared) (u : Value), BindsTo s fd ⟨[u], []⟩ [(x, u)])
    (wish : ∀ H : Hp, Only H → SqL K H a (ns.map V.int) → sp [.ref a] H (fun v _ => v = .bl true) fun _ _ _ => False)
    (noX : ∀ H e s', CX [] H t (fun _ _ _ => False) e s' → False) :
    codeAny (model P w) callerA (.call (.ref fa) ⟨[.ref a], []⟩) (fun r s' => r = .ok (.ret (.bool true)) ∧ OldK t.heap s'.heap ∧ s'.os = t.os ∧ AllBare s'.gens) t := by
  have vals := vals_ints isI
  have many := isI.length
  have only : Only (scrH K a us ns) := fun b => by
    cases e : scrH K a us ns b with
    | none => exact .inl rfl
    | some u =>
      obtain ⟨_, _, z⟩ := scrH_some e
      exact .inr ⟨_, _, congrArg some z⟩
  have seq : SqL K (scrH K a us ns) a (ns.map V.int) := by
    cases e : K.lookup a with
    | none => exact .inl (.inr ⟨scrO us, if_pos ⟨rfl, e⟩⟩)
    | some o =>
      have z := kin a o e
      rw [at_a] at z
      cases z
      exact .inr ⟨_, us.toArray, _, e, rfl, rfl, rfl, by rw [List.size_toArray, many]; exact short, vals⟩
  have held : HOk P w (scrH K a us ns) t.heap := fun b u e => by
    obtain ⟨rfl, _, rfl⟩ := scrH_some e
    exact ⟨at_a, by rw [List.length_map]; exact short, us, _, vals, at_a⟩
  have noDict : ∀ {b : Addr} {o : Obj} {es : Array DictEntry} {n : Nat}, t.heap.get? b = some o → o.data = .dict es n → scrH K a us ns b = none := by
    intro b o es n e1 e2
    cases e : scrH K a us ns b with
    | none => rfl
    | some u =>
      obtain ⟨rfl, _, _⟩ := scrH_some e
      rw [at_a] at e1
      cases e1
      cases e2
  have ns_of : ∀ {b : Addr} {m : Str → Option Value}, t.heap.Ns b m → (hidT t.heap (scrH K a us ns)).Ns b m := by
    rintro b m ⟨o, es, n, e1, e2, r⟩
    exact ⟨o, es, n, hidT_get e1 (noDict e1 e2), e2, r⟩
  have kin' : K.In (hidT t.heap (scrH K a us ns)) := fun b o e => hidT_get (kin b o e) (by
    cases z : scrH K a us ns b with
    | none => rfl
    | some u =>
      obtain ⟨rfl, n, _⟩ := scrH_some z
      rw [n] at e
      cases e)
  have modl : Mod K mg (hidT t.heap (scrH K a us ns)) := by
    obtain ⟨mc, f1, f2⟩ := free
    exact ⟨kin', ns_of glb, ⟨mb, ns_of blt, boot⟩, ⟨mc, ns_of f1, f2⟩⟩
  have env0 : Env0 P w K mg (hidT t.heap (scrH K a us ns)) callerA [] t (scrH K a us ns) :=
    ⟨rfl, modl, fun b o z => of_hidT z, Nat.le_of_eq (hidT_size _ _), trivial, fun b z => absurd (show b ∈ ([] : List Addr) from z) (by simp), held, .of_eq noG⟩
  refine codeAny_mono ((F _ kin' (ns_of glb)).run callerA [] t _ ⟨[.ref a], []⟩ [.ref a] [.ref a] _ _ rfl room env0 (bind t (.ref a)) (.cons rfl .nil) (wish _ only seq)) fun r s' z => ?_
  cases r with
  | error e => exact (noX _ e s' z).elim
  | ok fl =>
    cases fl with
    | next => exact z.elim
    | brk => exact z.elim
    | cont => exact z.elim
    | ret u =>
      obtain ⟨v, H', os, bare, un, held', rv, q⟩ := z
      cases (show v = .bl true from q)
      cases (show u = Value.bool true from rv)
      refine ⟨rfl, OldK.of_keep fun b o e => ?_, os, bare⟩
      cases c : scrH K a us ns b with
      | none => exact un.keep b o e c (fun z => absurd (show b ∈ ([] : List Addr) from z) (by simp)) (by simp)
      | some u2 =>
        obtain ⟨rfl, _, rfl⟩ := scrH_some c
        obtain ⟨e2, _⟩ := held' _ _ (un.frzs _ _ _ c)
        rw [at_a] at e
        cases e
        exact e2
theorem walkG {l : PySem.W.OpenLaw} {n k : Nat} {q : Program} {loose : List Str} {XP : (Str → Option Value) → Heap → Prop} {YP : World → Heap → Prop} {d : DefRec} {K : Params → PySem.W.Frag} {sp : PySem.W.Frag → Sp} {x : Str}
    (most : l.most = some n) (few : n ≤ sizeLine) (plain : d.params.defaults = []) (room : Room k callerA) (ky : ∀ (w : World) (h : Heap), YP w h → (K w.params).In h)
    (F : ∀ (w : World) (mg : Str → Option Value) (fa : Addr) (h : Heap), (K w.params).In h → h.Ns mainGlobals mg → mg d.name = some (.ref fa) → ∃ fd : FuncData, (∀ (s : Shared) (u : Value), BindsTo s fd ⟨[u], []⟩ [(x, u)]) ∧
      ∀ base : Heap, (K w.params).In base → base.Ns mainGlobals mg → FnG l.prog w (K w.params) mg base CX0 k fa fd [x] (sp (K w.params)))
    (wish : ∀ (K : PySem.W.Frag) (H : Hp) (a : Addr) (ns : List Int), ns.length ≤ n → Only H → SqL K H a (ns.map V.int) → sp K [.ref a] H (fun v _ => v = .bl true) fun _ _ _ => False) :
    PySem.W.WalkO q loose XP YP l.row.toRowW d [] (fun f vs => PySem.call f vs) := by
  refine Att.attach_call most plain ?_
  intro w s0 t mg mb fa o pm cd doc a us ns G Y ho hd hcd hmg at_a isI many noG
  obtain ⟨fd, bind, ok⟩ := F w mg fa _ (ky w _ Y) G.T.g hmg
  exact lawG (ky w _ Y) G.T.g G.T.b G.T.builtins G.T.nolimit noG at_a isI (Nat.le_trans many few) room ok bind (fun H o1 o2 => wish (K w.params) H a ns many o1 o2) fun _ _ _ z => z.elim
end AL
set_option Elab.async false
set_option maxRecDepth 100000
set_option maxHeartbeats 4000000
/-! Own exceptions held as values: made, their fields read, asked for their class. -/
namespace PySem
open PySem.W PySem.Calls PyProof.Rows
section
variable {prog : Program} {w : World} {A : Around} {E : Value → Shared → Prop} {s : Shared} {K : Frag} {x D : Addr} {ox : Obj} {od : Option Obj}
/-- a data descriptor of the class is found ahead of the own dict -/
theorem al_findObj {C : Addr} {n : Str} {a g : Value} (hc : (clsIn K C).isSome = true) (ha : findIn K (.ref C) n = some (some a)) (hg : specialIn K a "__get__" = some (some g)) (ht : takesIn K a = some true) : findObj K C od n = some (.bind g a) := by
  obtain ⟨cd, e⟩ := Option.isSome_iff_exists.mp hc
  unfold findObj
  rw [e, Option.bind_some, ha, Option.bind_some]
  simp [hg, ht]
/-- e.__class__ of an own exception, whatever its dict holds -/
theorem al_class {Q : Option Value → Shared → Prop} (T : L2.ExcC K D) (X : K.In s.heap) (J : InstAt s.heap x ox D od) (h : Q (some (.ref D)) { s with toks := s.toks + 1 }) : wpAny (model prog w) A (getAttr? (.ref x) "__class__") Q E s := by
  have hf : findObj K D od "__class__" = some (.bind (.builtin "getset_descriptor.__get__") (.builtin "object.__class__")) := al_findObj (by
    obtain ⟨cd, e, _⟩ := any_some T.hd
    rw [e]; rfl) T.ha T.hn T.ht
  obtain ⟨hp, ge, dr, tk, os⟩ := s
  have ty := J.type (M := model prog w)
  have l1 := looks_findIn (M := model prog w) X T.hg
  have l2 := looks_findIn (M := model prog w) X T.hk
  have l3 := looks_find (M := model prog w) X J hf
  have isExc : Looks (model prog w) hp (isInstance (.ref x) (.type "BaseException")) true := ty.andThen (looks_subIn X T.hs)
  have f0 : (false && onTheHeap (Value.builtin "BaseException.__getattribute__")) = false := rfl
  have f1 : (onTheHeap (Value.ref D) && Value.builtin "BaseException.__getattribute__" == Value.builtin "object.__getattribute__") = false := by
    rw [show (Value.builtin "BaseException.__getattribute__" == Value.builtin "object.__getattribute__") = false by decide +kernel]; rfl
  unfold getAttr? getAttrBy? getAttrBy
  refine wpAny_bind (wpAny_mkText (wpAny_bind (wpAny_attempt (wpAny_holding (wpAny_bind (ty.at (wpAny_bind (l1.at ?_))))))))
  show wpAny _ _ (if (onTheHeap (Value.ref D) && Value.builtin "BaseException.__getattribute__" == Value.builtin "object.__getattribute__") = true then _ else _) _ _ _
  rw [f1, if_neg Bool.false_ne_true]
  unfold getAttrByItsOwn hookBefore
  refine wpAny_bind ?_
  have onHp : onTheHeap (Value.ref D) = true := rfl
  rw [if_pos onHp]
  refine l2.at ?_; refine wpAny_bind (wpAny_attempt (wpAny_holding ?_))
  unfold callGetattribute
  rw [f0, if_neg Bool.false_ne_true]
  unfold boundAndCalled
  rw [PySem.F.excAttr_ValueError.ga.bind (.ref x)]
  refine wpAny_bind (wpAny_pure ?_)
  show wpAny _ _ (call (.builtin "BaseException.__getattribute__") [.ref x, .str "__class__" tk]) _ _ _
  refine wpAny_call (codeAny_call_builtin PySem.F.excAttr_ValueError.ga.plain PySem.F.entry_bexc_ga (@check_slot (model prog w) _ _ ⟨hp, ge, dr, tk + 1, os⟩ "BaseException.__getattribute__" "BaseException" "__getattribute__" (.ref x) [.str "__class__" tk] [] _ (by decide +kernel) (by decide +kernel) isExc (PySem.F.args_bexc_ga (.ref x) (.str "__class__" tk)) ?_))
  unfold Builtin.«object.__getattribute__»
  refine wpAny_bind (wpAny_of_eq (a := ((Value.ref x : Value), [Value.str "__class__" tk])) (by first | rfl | (simp only [slotArgs]; rfl)) (wpAny_bind (wpAny_pure (wpAny_bind (ty.at (wpAny_bind (l3.at ?_)))))))
  show wpAny _ _ (holding [Value.builtin "object.__class__"] (call (.builtin "getset_descriptor.__get__") [.builtin "object.__class__", .ref x, .ref D]) >>= ret) _ _ _
  refine wpAny_bind (wpAny_holding (wpAny_call (class_get (s := ⟨hp, ge, dr, tk + 1, os⟩) (ox := ox) (od := od) X J T.hm (wpAny_pure ?_))))
  show wpAny _ _ (handedOut (.ref D)) _ _ _
  rw [handedOut_of (v := .ref D) rfl]
  first
    | exact wpAny_pure (wpAny_pure h)
    | exact wpAny_pure h
    | exact wpAny_pure (wpAny_bind (wpAny_pure (wpAny_pure h)))
theorem al_kitx (T : L2.ExcC K D) : KitX K (.ref x) (.ref D) (fun h => InstAt h x ox D od) := by
  obtain ⟨cd, ecd, _⟩ := any_some T.hd
  have there : ∃ o, K.lookup D = some o ∧ ∀ its n, o.data ≠ .seq its n := by
    unfold clsIn at ecd
    split at ecd
    · rename_i c' d' cd' sl' ho
      exact ⟨_, ho, fun _ _ z => by cases z⟩
    · cases ecd
  constructor
  case ty => exact fun _ _ _ J => J.type
  case it =>
    intro _ _ X _
    unfold clsIn at ecd
    split at ecd
    · rename_i c' d' cd' sl' ho
      intro A' Q' E' s' kk q
      unfold isType loadHead
      exact wpAny_bind (wpAny_loadPart (kk _ _ (X _ _ ho)) (wpAny_pure q))
    · cases ecd
  case ne =>
    intro h tp dd its n sl X htp
    refine Bool.eq_false_iff.mpr fun q => ?_
    have e : D = tp := Value.ref.inj (beq_iff_eq.mp q)
    subst e
    obtain ⟨o, ho, no⟩ := there
    have z := (X _ _ ho).symm.trans htp
    cases z
    exact no _ _ rfl
  case ca => exact fun X J kk => al_class T X J kk
end
end PySem
namespace AL
open PySem PySem.Spec PyProof.Rows L2
/-- C(e, ..), a value -/
def tMkV (C : Addr) (sp : Sp) (ta : TA) : TE := fun σ H Q => ta σ H fun vs H1 => vs.length ≤ 1000 ∧ ∀ a, H1 a = none → sp (.ref a :: vs) (upd H1 a (exo a C none)) (fun v H2 => v = .non ∧ Q (.ref a) H2) fun _ _ _ => False
/-- e.f of such a value -/
def tFv (K : PySem.W.Frag) (f : Str) (te : TE) : TE := fun σ H Q => te σ H fun x H1 => ∃ (a C dx : Addr) (fs : List (Str × V)) (v : V), x = .ref a ∧ XfC K C ∧ PySem.W.findIn K (.ref C) f = some none ∧
  H1 a = some (exo a C (some dx)) ∧ H1 dx = some (exd dx fs) ∧ fs.lookup f = some v ∧ Q v H1
/-- isinstance(e, c) of such a value -/
def rIsV (K : PySem.W.Frag) : List V → Hp → VK → Prop := fun vs H Q => ∃ (a C : Addr) (c : V) (u : Value) (b : Bool), vs = [.ref a, c] ∧ ExcC K C ∧ ((∃ dx fs, H a = some (exo a C (some dx)) ∧ H dx = some (exd dx fs)) ∨ H a = some (ExO (.ref C) a)) ∧
  ClsV c u ∧ PySem.W.kitOne K (.ref C) u = some b ∧ Q (.bl b) H
section
variable {X : Cx} {x : Str} {C fI : Addr} {k : Nat} {fd : FuncData} {ps : List Str} {sp : Sp} {e : Expr} {es : List Expr} {ta : TA} {te : TE} {p pos : Pos} {CX : CXT}
theorem pe_mkV (T : OexC X.K C) (hi : PySem.W.findIn X.K (.ref C) "__init__" = some (some (.ref fI))) (ht : PySem.W.typeIn X.K (.ref fI) = some (.type "function")) (F : FnOk X.prog X.w X.K X.mg X.base CX k fI fd ps sp)
    (room : Room (k + 1) X.A) (hb : Binds X.K fd ps []) (out : Passes CX X fun _ _ _ => False) (hg : Gl X x) (hm : X.mg x = some (.ref C)) (ha : PA X (e :: es) ta) (nd : (x == ("__debug__" : Str)) = false := by decide)
    (s1 : starEach (e :: es) X.env = (false, eval e X.env) :: starEach es X.env := by rfl) (s2 : (backTo pos (starEach es X.env)).any (·.1) = false := by rfl) : PE X (.Call (.Name x p) (e :: es) [] pos) (tMkV C sp ta) := by
  constructor
  intro pins s σ H Q I h
  obtain ⟨_, _, _, _, bm, _, _, _, _, _, _, _, _, _, _, look, isVE⟩ := T.cls
  refine wpAny_Call_Name_kw (ld_glob I hg hm (PySem.W.callWith_K (h₀ := X.base) I.ok.mod.kin T.kC (thn (ha.run pos pins s σ H _ I h) fun us sA hA => ?_) s1 s2) nd)
  obtain ⟨vs, H1, J, rv, few, wish⟩ := hA
  refine ⟨J.kIn, ?_⟩
  show wpAny _ _ (call (.ref C) us) _ _ _
  obtain ⟨hp, ge, dr, tk, os⟩ := sA
  have bound : hp.objs.size ≤ hp.objs.size + 1 := Nat.le_succ _
  have fresh : H1 (hp.objs.size + 1) = none := J.hok.fresh bound
  have goal := wish _ fresh
  have keep : ∀ b o, hp.get? b = some o → ((hp.push (PySem.W.kdv_tup us)).push (PySem.HandSPX.excO C hp.objs.size)).get? b = some o := fun b o z => Heap.get?_push_of_some _ (Heap.get?_push_of_some _ z)
  have there : ((hp.push (PySem.W.kdv_tup us)).push (PySem.HandSPX.excO C hp.objs.size)).get? (hp.objs.size + 1) = some (PySem.HandSPX.excO C hp.objs.size) := by heap_get
  have J2 : Inv X pins σ (upd H1 (hp.objs.size + 1) (exo (hp.objs.size + 1) C none)) ⟨(hp.push (PySem.W.kdv_tup us)).push (PySem.HandSPX.excO C hp.objs.size), ge, dr, tk, os⟩ := J.laid (t' := tk) keep bound (exo_ok there)
  have rv2 : Vals (V.ref (hp.objs.size + 1) :: vs) (Value.ref (hp.objs.size + 1) :: us) := .cons rfl rv
  have many : (Value.ref (hp.objs.size + 1) :: us).length = ps.length := rv2.length.symm.trans (F.len _ _ _ _ goal)
  have few' : us.length ≤ sizeLine := by
    have z := rv.length
    rw [sizeLine_eq]
    omega
  have bd : BindsTo ⟨(hp.push (PySem.W.kdv_tup us)).push (PySem.HandSPX.excO C hp.objs.size), ge, dr, tk, os⟩ fd ⟨Value.ref (hp.objs.size + 1) :: us, []⟩ (ps.zip (Value.ref (hp.objs.size + 1) :: us)) := by
    have z := hb ⟨(hp.push (PySem.W.kdv_tup us)).push (PySem.HandSPX.excO C hp.objs.size), ge, dr, tk, os⟩ (Value.ref (hp.objs.size + 1) :: us) J2.kIn (by rw [List.append_nil]; exact many)
    rw [List.append_nil] at z
    exact z
  refine wpAny_call (PySem.HandSPX.call_own PySem.F.excBase_ValueError (fun Y => PySem.HandSPX.refsVE_contains Y bm isVE) (J.kIn _ _ look) (PySem.W.looks_findIn J.kIn hi) (fun self => PySem.W.bind_fn J.kIn self ht) few' (codeAny_mono
    (F.run _ X.stack _ _ ⟨Value.ref (hp.objs.size + 1) :: us, []⟩ (Value.ref (hp.objs.size + 1) :: us) _ _ (fun _ _ _ => False) (room.make C us []) (J2.env0.make C us []) bd rv2 goal) fun r sB hB => ?_))
  cases r with
  | error er => exact out pins σ _ _ er sB J2 hB
  | ok fl =>
    cases fl with
    | next => exact hB.elim
    | brk => exact hB.elim
    | cont => exact hB.elim
    | ret u =>
      obtain ⟨v, H2, os2, bare2, un2, hok2, rw2, ev, q2⟩ := hB
      subst ev
      refine ⟨rw2, .ref (hp.objs.size + 1), H2, ?_, rfl, q2⟩
      obtain ⟨h2, g2, d2, t2, os'⟩ := sB
      have un1 : Un (frs X.stack) [] H1 H2 hp h2 := (Un.laid keep bound fresh).trans un2
      exact J.call' (ch := []) os2 un1 hok2 bare2 (fun b z => absurd z (by simp))
theorem pe_fv {n : Str} (he : PE X e te) (hb : attributeBase e n X.env (eval e X.env) = eval e X.env := by rfl) : PE X (.Attribute e n pos) (tFv X.K n te) := by
  constructor
  intro pins s σ H Q I h
  refine attr_of hb (thn (he.run pins s σ H _ I h) fun u sA hA => ?_)
  obtain ⟨y, H1, J, ry, a, C, dx, fs, v, rfl, T, no, ea, ed, l, q⟩ := hA
  cases (show u = Value.ref a from ry)
  obtain ⟨t1, oa⟩ := exo_at J.hok ea
  obtain ⟨mA, hns, rel⟩ := exd_at J.hok ed
  obtain ⟨od, ho, hl⟩ := lookIn_ns hns
  obtain ⟨u, hu, ru⟩ := RelO.some_of (v := v) (o := mA n) (by rw [← l]; exact rel n)
  exact HandSPX.exc_get J.kIn (⟨oa, rfl, rfl, ho⟩ : PySem.W.InstAt sA.heap a _ C (some od)) T.ga T.gg T.exC (PySem.W.findObj_own T.hdC no rfl (by rw [hl, hu])) (handed_of ru) ⟨v, H1, J.tok _, ru, q⟩
theorem call_isV : CallR X (.builtin "isinstance") (rIsV X.K) := by
  intro pins s σ H vs us Q I r h
  obtain ⟨a, C, c, u, b, rfl, T, what, kc, e, q⟩ := h
  obtain ⟨u1, u2, rfl, r1, r2⟩ := vals2 r
  cases (show u1 = Value.ref a from r1)
  cases kc.eq r2
  rcases what with ⟨dx, fs, ea, ed⟩ | ea
  · obtain ⟨t1, oa⟩ := exo_at I.hok ea
    obtain ⟨mA, hns, rel⟩ := exd_at I.hok ed
    obtain ⟨od, ho, hl⟩ := lookIn_ns hns
    exact PySem.W.kia_one (al_kitx T) I.kIn (⟨oa, rfl, rfl, ho⟩ : PySem.W.InstAt s.heap a _ C (some od)) e (fun z => nomatch z) fun tk => ⟨.bl b, H, I.tok tk, rfl, q⟩
  · obtain ⟨⟨oe, fv, oa, ⟨z1, z2⟩, z3, _⟩, _⟩ := I.hok a _ ea
    exact PySem.W.kia_one (al_kitx T) I.kIn (⟨oa, z1, by unfold PySem.W.notCls; rw [z3] <;> rfl, by rw [z2]; trivial⟩ : PySem.W.InstAt s.heap a oe C none) e (fun z => nomatch z) fun tk => ⟨.bl b, H, I.tok tk, rfl, q⟩
/-- C() of an own class over ValueError without __init__ -/
theorem pe_mkV0 {bmB : List Value} {B newId initId : String} (F : ExcBaseFacts B newId initId bmB) (ex : PySem.W.excIn X.K C bmB newId = true) (hm : X.mg x = some (.ref C)) (kp : PySem.W.keepIn X.K (.ref C) = true) (hg : Gl X x) (nd : (x == ("__debug__" : Str)) = false := by decide) :
    PE X (.Call (.Name x p) [] [] pos) (fun _ H Q => ∀ a, H a = none → Q (.ref a) (upd H a (ExO (.ref C) a))) := by
  constructor
  intro pins s σ H Q I h
  refine wpAny_Call_Name_kw (ld_glob I hg hm (PySem.W.callWith_K0 I.kIn kp ?_) nd)
  obtain ⟨bm, N, nm, qn, bs, hd, sn, sub, ab, col, dd, c0, c1, c2, c3, c5, mN, hC, hN, hni, T⟩ := exc_obj I.kIn ex
  obtain ⟨hp, ge, dr, tk, os⟩ := s
  refine wpAny_call_exc_subT F T hC hN hni (fun h2 a made => ?_) (Nat.zero_le _)
  have fresh : H a = none := I.hok.gone made.new
  obtain ⟨t, here, _, _⟩ := made.there
  exact ⟨.ref a, upd H a (ExO (.ref C) a), I.laidN (t' := tk) made.keeps made.new fresh (exO_ok here ⟨rfl, rfl⟩ rfl rfl rfl (show 4 < 6 by decide)), rfl, h a fresh⟩
end
end AL
set_option Elab.async false
set_option maxRecDepth 100000
set_option maxHeartbeats 2000000
/-! Own error classes of the program: what the top writes of them, as one Bool a class. -/
namespace AL
open PySem PySem.Spec PyProof.Rows L2
/-- all that is asked of an own error class, but its row -/
def errB (K : PySem.W.Frag) (C : Addr) (fs : List Str) : Bool :=
  decide (PySem.W.findIn K (.ref C) "__setattr__" = some (some (.builtin "object.__setattr__"))) && (decide (PySem.W.subIn K (.ref C) (.type "BaseException") = some true) && (decide (PySem.W.typeIn K (.ref C) = some (.type "type")) && (PySem.W.keepIn K (.ref C) &&
  (xfB K C && (decide (PySem.W.findIn K (.ref C) "__class__" = some (some (.builtin "object.__class__"))) && (decide (PySem.W.specialIn K (.builtin "object.__class__") "__get__" = some (some (.builtin "getset_descriptor.__get__"))) &&
  (decide (PySem.W.takesIn K (.builtin "object.__class__") = some true) && (decide (PySem.W.mroIn K C (.type "object") = some true) && fs.all fun f => decide (PySem.W.findIn K (.ref C) f = some none)))))))))
structure ErrT (K : PySem.W.Frag) (mg : Str → Option Value) (x : Str) (C : Addr) (fs : List Str) : Prop where
  oex : OexC K C
  xf : XfC K C
  ex : ExcC K C
  m : mg x = some (.ref C)
  no : ∀ f ∈ fs, PySem.W.findIn K (.ref C) f = some none
theorem errT_of {K : PySem.W.Frag} {mg : Str → Option Value} {x : Str} {C : Addr} {fs : List Str} {nm q : Str} {N : Addr} {bs bm : List Value} {sn : List Str} {sub : List Value} {ab : Bool} {col : Option Bool} {dd : Option Addr} {k0 k1 k2 k3 k5 : Option Value}
    (row : K.lookup C = some (excClassObj nm q C N bs bm true sn sub ab col dd k0 k1 k2 k3 k5 "ValueError.__new__")) (bmo : PySem.HandSPX.refsVE bm = true) (m : mg x = some (.ref C)) (b : errB K C fs = true) : ErrT K mg x C fs := by
  unfold errB at b
  simp only [Bool.and_eq_true, decide_eq_true_eq, List.all_eq_true] at b
  obtain ⟨b1, b2, b3, b4, b5, b6, b7, b8, b9, b10⟩ := b
  have X := xfB_ok b5
  exact ⟨⟨⟨_, _, _, _, _, _, _, _, _, _, _, _, _, _, _, row, bmo⟩, b1, b2, b3, b4⟩, X, ⟨X.ga, X.gg, b2, X.hdC, b6, b7, b8, b9⟩, m, b10⟩
/-- its own __init__ -/
structure IniT (K : PySem.W.Frag) (qual : Str) (st : Stmt) (ps : List Str) (C fI : Addr) (fd : FuncData) : Prop where
  F : Fun K "__init__" qual st fI fd
  b : Binds K fd ps []
  fi : PySem.W.findIn K (.ref C) "__init__" = some (some (.ref fI))
  ti : PySem.W.typeIn K (.ref fI) = some (.type "function")
/-- __init__(self, f1, ..): the fields are stored -/
def spIni (C : Addr) (fs : List Str) : Sp := fun vs H Q _ => ∃ (a : Addr) (ys : List V), vs = .ref a :: ys ∧ ys.length = fs.length ∧ H a = some (exo a C none) ∧
  ∀ (dx : Addr) (H' : Hp), H dx = none → dx ≠ a → H' a = some (exo a C (some dx)) → H' dx = some (exd dx (fs.zip ys).reverse) → (∀ b, b ≠ a → b ≠ dx → H' b = H b) → Q .non H'
/-- an error of the class at C stands at e -/
def EV (H : Hp) (e C : Addr) : Prop := (∃ dx fs, H e = some (exo e C (some dx)) ∧ H dx = some (exd dx fs)) ∨ H e = some (ExO (.ref C) e)
theorem EV.same {H H' : Hp} {e C : Addr} (h : EV H e C) (s : Same H H') : EV H' e C := by
  rcases h with ⟨dx, fs, h1, h2⟩ | h
  · exact .inl ⟨dx, fs, s _ _ h1, s _ _ h2⟩
  · exact .inr (s _ _ h)
theorem vi_eq {i j : Nat} (h : decide (V.int (i : Int) = V.int (j : Int)) = true) : i = j := by
  have z := of_decide_eq_true h
  injection z with z
  omega
theorem vi_ne {i j : Nat} (h : ¬ decide (V.int (i : Int) = V.int (j : Int)) = true) : i ≠ j := fun e => h (by subst e; exact decide_eq_true rfl)
end AL
set_option Elab.async false
set_option maxRecDepth 100000
set_option exponentiation.threshold 3000
/-! Data that stay, and that can be shown. -/
namespace AL
open PySem L2
mutual
theorem dp_mono {K : PySem.W.Frag} {H H' : Hp} (kl : ∀ a xs, SqL K H a xs → SqL K H' a xs) (kt : ∀ a xs, SqT K H a xs → SqT K H' a xs) : ∀ (d : PyData) (v : V), Dp K H v d → Dp K H' v d
  | .none, _, h => by cases h; exact .non
  | .bool b, _, h => by cases h; exact .bl b
  | .int i, _, h => by cases h; exact .int i
  | .str x, _, h => by cases h; exact .str x
  | .list ds, _, h => by
    cases h with
    | lst hs ha => exact .lst (kl _ _ hs) (dpAll_mono kl kt ds _ ha)
  | .tuple ds, _, h => by
    cases h with
    | tup hs ha => exact .tup (kt _ _ hs) (dpAll_mono kl kt ds _ ha)
  | .dict _, _, h => by cases h
theorem dpAll_mono {K : PySem.W.Frag} {H H' : Hp} (kl : ∀ a xs, SqL K H a xs → SqL K H' a xs) (kt : ∀ a xs, SqT K H a xs → SqT K H' a xs) : ∀ (ds : List PyData) (vs : List V), DpAll K H vs ds → DpAll K H' vs ds
  | [], _, h => by cases h; exact .nil
  | d :: ds, _, h => by
    cases h with
    | cons h1 h2 => exact .cons (dp_mono kl kt d _ h1) (dpAll_mono kl kt ds _ h2)
end
theorem same_seqT {K : PySem.W.Frag} {H H' : Hp} {a : Addr} {xs : List V} (e : Same H H') (h : SqT K H a xs) : SqT K H' a xs := by
  rcases h with (h | ⟨o, h⟩) | h
  · exact .inl (.inl (e _ _ h))
  · exact .inl (.inr ⟨o, e _ _ h⟩)
  · exact .inr h
theorem dp_same {K : PySem.W.Frag} {H H' : Hp} {v : V} {d : PyData} (s : Same H H') (h : Dp K H v d) : Dp K H' v d := dp_mono (fun _ _ z => Same.seq s z) (fun _ _ z => same_seqT s z) d v h
theorem dp_keep {K : PySem.W.Frag} {H H' : Hp} {p c : Addr} {m : Nat} {v : V} {d : PyData} (k : Keep p H H') (P : Pen H p c m) (h : Dp K H v d) : Dp K H' v d := dp_mono (fun _ _ z => k.seqL P z) (fun _ _ z => k.seqT P z) d v h
/-- can be shown, by few signs -/
structure OkD (d : PyData) : Prop where
  sh : d.showable = true
  nd : d.hasDict = false
  dp : d.depth ≤ 10
  ln : d.shown.length ≤ 1000
/-- some data that can be shown -/
def Datum (K : PySem.W.Frag) (H : Hp) (v : V) : Prop := ∃ d, Dp K H v d ∧ OkD d
theorem Datum.same {K : PySem.W.Frag} {H H' : Hp} {v : V} (h : Datum K H v) (s : Same H H') : Datum K H' v := by
  obtain ⟨d, h1, h2⟩ := h
  exact ⟨d, dp_same s h1, h2⟩
theorem Datum.keep {K : PySem.W.Frag} {H H' : Hp} {p c : Addr} {m : Nat} {v : V} (h : Datum K H v) (k : Keep p H H') (P : Pen H p c m) : Datum K H' v := by
  obtain ⟨d, h1, h2⟩ := h
  exact ⟨d, dp_keep k P h1, h2⟩
theorem datum_non {K : PySem.W.Frag} {H : Hp} : Datum K H .non := ⟨.none, .non, by decide +kernel, by decide +kernel, by decide +kernel, by decide +kernel⟩
theorem datum_bl {K : PySem.W.Frag} {H : Hp} (b : Bool) : Datum K H (.bl b) := by
  refine ⟨.bool b, .bl b, rfl, rfl, by show 0 ≤ 10; decide, ?_⟩
  cases b <;> decide +kernel
theorem okD_int {i : Int} (h : i.natAbs < 10 ^ 400) : OkD (.int i) := by
  have h2 : i.natAbs < 2 ^ 1920 := Nat.lt_trans (Nat.lt_of_lt_of_le h (Nat.pow_le_pow_right (by decide) (by decide : 400 ≤ 402))) pow402
  refine ⟨decide_eq_true (log2_small (by decide) h2), rfl, by show 0 ≤ 10; decide, ?_⟩
  show (Str.ofString (toString i)).length ≤ 1000
  have e : (Str.ofString (toString i)).length = (toString i).length := by
    rw [Str.ofString_eq_toList]
    show (((toString i).toList.map Char.toNat).toArray).size = _
    rw [List.size_toArray, List.length_map, String.length_toList]
  rw [e]
  have := int_text_length_le10 (by decide) h
  omega
theorem datum_int {K : PySem.W.Frag} {H : Hp} {i : Int} (h : i.natAbs < 10 ^ 400) : Datum K H (.int i) := ⟨.int i, .int i, okD_int h⟩
theorem datum_str {K : PySem.W.Frag} {H : Hp} {z : Str} (h : z.length ≤ 90) (hc : ∀ c ∈ z.cps.toList, c < 128) : Datum K H (.str z) := by
  refine ⟨.str z, .str z, rfl, rfl, by show 0 ≤ 10; decide, ?_⟩
  show (reprText z).length ≤ 1000
  have := StrLaws.reprText_len z (fun c hcc => Nat.lt_trans (hc c hcc) (by decide))
  omega
theorem okD_tup : ∀ (ds : List PyData), ds.length ≤ 3 → (∀ d ∈ ds, OkD d) → (PyData.tuple ds).showable = true ∧ (PyData.tuple ds).hasDict = false ∧ (PyData.tuple ds).depth ≤ 60 ∧ (PyData.tuple ds).shown.length ≤ sizeLine := by
  intro ds hl h
  have all : ∀ (ds : List PyData), (∀ d ∈ ds, OkD d) → PyData.showableAll ds = true ∧ PyData.hasDictAll ds = false ∧ PyData.depthAll ds ≤ 10 ∧ ((PyData.shownAll ds).map (·.length)).sum ≤ 1000 * ds.length ∧ (PyData.shownAll ds).length = ds.length := by
    intro ds
    induction ds with
    | nil => intro _; exact ⟨rfl, rfl, by decide, by decide, rfl⟩
    | cons d ds ih =>
      intro h
      obtain ⟨a1, a2, a3, a4, a5⟩ := ih fun x hx => h x (List.mem_cons_of_mem _ hx)
      have o := h d List.mem_cons_self
      have o1 := o.sh
      have o2 := o.nd
      have o3 := o.dp
      have o4 := o.ln
      refine ⟨?_, ?_, ?_, ?_, ?_⟩
      · simp only [PyData.showableAll, o1, a1, Bool.and_self]
      · simp only [PyData.hasDictAll, o2, a2, Bool.or_self]
      · simp only [PyData.depthAll]; omega
      · simp only [PyData.shownAll, List.map_cons, List.sum_cons, List.length_cons]; omega
      · simp only [PyData.shownAll, List.length_cons, a5]
  obtain ⟨a1, a2, a3, a4, a5⟩ := all ds h
  refine ⟨?_, ?_, ?_, ?_⟩
  · simpa only [PyData.showable] using a1
  · simpa only [PyData.hasDict] using a2
  · simp only [PyData.depth]; omega
  · simp only [PyData.shown]
    have := tupleText_len_le (PyData.shownAll ds)
    rw [a5] at this
    refine Nat.le_trans this ?_
    refine Nat.le_trans (show _ ≤ 10000 by omega) (by decide)
theorem dpAll_bl {K : PySem.W.Frag} {H : Hp} : ∀ l : List Bool, DpAll K H (l.map V.bl) (l.map PyData.bool)
  | [] => .nil
  | b :: l => .cons (.bl b) (dpAll_bl l)
theorem shaped_bl (l : List Bool) : SeqAt.shaped (.list (l.map PyData.bool)) = true := by
  have h1 : ∀ l : List Bool, PyData.canLayAll0 (l.map PyData.bool) = true ∧ PyData.depthAll (l.map PyData.bool) = 0 := by
    intro l
    induction l with
    | nil => exact ⟨rfl, rfl⟩
    | cons b l ih => exact ⟨by simp [PyData.canLayAll0, PyData.canLay0, ih.1], by simp [PyData.depthAll, PyData.depth, ih.2]⟩
  unfold SeqAt.shaped
  rw [show PyData.canLay0 (.list (l.map PyData.bool)) = true by simpa [PyData.canLay0] using (h1 l).1]
  simp [PyData.depth, (h1 l).2]
end AL
set_option Elab.async false
set_option maxRecDepth 100000
set_option maxHeartbeats 4000000
/-! Own errors raised, and caught by several clauses with a name each. -/
namespace AL
open PySem PySem.Spec PyProof.Rows L2
theorem pa_mono {X : Cx} {es : List Expr} {ta : TA} (h : PA X es ta) : PA X es (fun σ H K => ∃ K0 : List V → Hp → Prop, ta σ H K0 ∧ ∀ vs H', K0 vs H' → K vs H') :=
  ⟨fun pos pins s σ H K I ⟨K0, z, i⟩ => thn (h.run pos pins s σ H K0 I z) fun _ _ ⟨vs, H', J, r, q⟩ => ⟨vs, H', J, r, i vs H' q⟩⟩
/-- a weaker reading of what makes an exception -/
theorem pmk_imp {X : Cx} {e : Expr} {t u : L2.St → Hp → XK → Prop} (h : PMk X e t) (i : ∀ σ H Q, u σ H Q → t σ H Q) : PMk X e u := fun pins s σ H Q I z => h pins s σ H Q I (i σ H Q z)
/-- raise C(e, ..): the fields lie in the error's own dict -/
def tRaise (C : Addr) (fs : List Str) (W : WX) (ta : TA) : TS := fun _ σ H => ta σ H fun vs H1 => vs.length = fs.length ∧ ∀ d, H1 d = none → W (.ref C) (some d) σ (upd H1 d (.xd (fs.zip vs).reverse))
section
variable {X : Cx} {x : Str} {C fI : Addr} {fd : FuncData} {ps fs : List Str} {e : Expr} {es : List Expr} {ta : TA} {p pos pos2 : Pos} {k : Nat} {W : WX} {qual : Str} {st : Stmt}
theorem ps_raiseC (calm : X.calm = true) (tk : Takes X W) (T : ErrT X.K X.mg x C fs) (J : IniT X.K qual st ps C fI fd) (F : FnOk X.prog X.w X.K X.mg X.base CX0 k fI fd ps (spIni C fs)) (room : Room (k + 1) X.A) (few : fs.length ≤ 1000) (hg : Gl X x) (ha : PA X (e :: es) ta)
    (nd : (x == ("__debug__" : Str)) = false := by decide) (s1 : starEach (e :: es) X.env = (false, eval e X.env) :: starEach es X.env := by rfl) (s2 : (backTo pos (starEach es X.env)).any (·.1) = false := by rfl) :
    PS X (.Raise (some (.Call (.Name x p) (e :: es) [] pos)) none pos2) (tRaise C fs W ta) := by
  have out : Passes CX0 X fun _ _ _ => False := fun _ _ _ _ _ _ _ z => z.elim
  refine ps_raise (t := fun σ H Q => ta σ H fun vs H1 => vs.length = fs.length ∧ ∀ d, H1 d = none → Q (.ref C) (some d) (upd H1 d (.xd (fs.zip vs).reverse))) calm tk (pmk_imp (pmk_oex T.oex J.fi J.ti F room J.b .nil out hg T.m (pa_mono ha) nd s1 s2) ?_)
  intro σ H Q h
  refine ⟨_, h, ?_⟩
  rintro vs H1 ⟨many, q⟩
  refine ⟨by omega, fun a fresh => ?_⟩
  rw [List.append_nil]
  refine ⟨a, vs, rfl, many, upd_same, fun dx H' hd hne e1 e2 kp => ⟨rfl, dx, _, e1, e2, ?_, ?_⟩⟩
  · rw [upd_ne hne] at hd; exact hd
  · have hd1 : H1 dx = none := by rw [upd_ne hne] at hd; exact hd
    have same : upd (del H' a) dx (.xd (fs.zip vs).reverse) = upd H1 dx (.xd (fs.zip vs).reverse) := by
      funext b
      by_cases hb : b = dx
      · rw [hb, upd_same, upd_same]
      · rw [upd_ne hb, upd_ne hb]
        by_cases hba : b = a
        · rw [hba, del_same, fresh]
        · rw [del_ne hba, kp b hba hb, upd_ne hba]
    rw [same]
    exact q dx hd1
end
/-! ### try: .., except X as n: .., except Y as m: .. -/
/-- a clause: its class, its name's slot, its suite's reading -/
abbrev Cl := Value × Nat × (Addr → Value → Option Addr → TS)
/-- behind a suite its name is gone -/
def Ends.less (D : Ends) (i : Nat) : Ends := { nx := fun σ H => D.nx (σ.set i none) H, rt := D.rt, bk := fun σ H => D.bk (σ.set i none) H, ct := fun σ H => D.ct (σ.set i none) H }
def wNamed (K : PySem.W.Frag) (W0 : WX) (D : Ends) : List Cl → WX
  | [] => W0
  | (c, i, ts) :: r => fun cls d σ H => ∃ b, PySem.W.exmOne K cls c = some b ∧ (b = true → ∀ a, H a = none → ts a cls d (Ends.less D i) (σ.set i (some (.ref a))) H) ∧ (b = false → wNamed K W0 D r cls d σ H)
inductive Named (X : Cx) : List ExceptHandler → List Cl → Prop
  | nil : Named X [] []
  | cons {x n : Str} {c : Value} {i : Nat} {ts : Addr → Value → Option Addr → TS} {b0 : Stmt} {rest : List Stmt} {q1 q2 : Pos} {hd : List ExceptHandler} {l : List Cl} (cl : Names X x c) (sl : X.N[i]? = some n) (lo : X.env.kindOf n = some .local)
      (su : ∀ (a : Addr) (oe : Obj) (cls : Value) (d : Option Addr) (pn : List (Addr × Obj)), Zc cls d oe → (∃ vs, oe.data = .fields vs) → PSs (X.suite a ((a, oe) :: pn)) (b0 :: rest) (ts a cls d)) (r : Named X hd l) :
      Named X (.ExceptHandler (some (.Name x q1)) (some n) (b0 :: rest) q2 :: hd) ((c, i, ts) :: l)
section
variable {X : Cx} {body : List Stmt} {h0 : ExceptHandler} {hd : List ExceptHandler} {l : List Cl} {pos : Pos} {tb : WX → TS} {W0 : WX}
theorem ps_tryN (stk : X.stack = X.env :: X.outer) (frm : X.env.frame = some X.env.locals) (nd : X.N.Nodup) (tk : Takes X W0)
    (inner : ∀ (W : WX) (pn : List (Addr × Obj)) (xe : Value → Shared → Prop), Takes (X.tr pn xe) W → PassesOwn (model X.prog X.w) X.A X.env xe → PSs (X.tr pn xe) body (tb W)) (cls : Named X (h0 :: hd) l) :
    PS X (.Try body (h0 :: hd) [] [] pos) (fun D σ H => tb (wNamed X.K W0 D l) D σ H) := by
  constructor
  intro pins s σ H D I h
  have frames : X.A.frames = some (X.env :: X.outer) := by rw [I.ok.frames, stk]
  let back : Value → Shared → Prop := fun e t1 => wpAny (model X.prog X.w) X.A (noteFrame e X.env) (fun _ t2 => wpAny (model X.prog X.w) X.A (setFlight e none) (fun _ t3 => wpAny (model X.prog X.w) X.A (handleBy e X.env (h0 :: hd)) (SP X pins D) X.xe t3) X.xe t2) X.xe t1
  have caught : ∀ u t, XE (X.tr (X.pn ++ pins) back) (wNamed X.K W0 D l) u t → back u t := by
    rintro u t ⟨a, B, t0, pins0, σ1, H1, ec, ed, rfl, J0, ground, up, sky, fresh, oss, bare, wish⟩
    have J : Inv X pins σ1 H1 t0 := J0.ofTry I.ok
    have sky1 : Sky B (X.env :: X.outer) a (Zc ec ed) X.env.locals t.heap := by rw [← stk]; exact sky
    show wpAny (model X.prog X.w) X.A (noteFrame (.ref a) X.env) _ _ _
    refine Sky.land Zc.steady frames frm sky1 fun g3 fl3 up3 => ?_
    have J3 : Inv X pins σ1 H1 { t with heap := g3 } := J.landed ground fl3.1 (up.trans up3) oss bare
    obtain ⟨o3, v3, at3, z3, dat3⟩ := fl3.there
    have apart : a ∉ frs (X.env :: X.outer) := fun m => by
      obtain ⟨_, o', e', no⟩ := fl3.2.2.1.mem m
      rw [at3] at e'
      cases e'
      exact no _ dat3
    have notL : a ≠ X.env.locals := fun z => apart (List.mem_filterMap.mpr ⟨X.env, List.mem_cons_self, by rw [frm, z]⟩)
    have notF : a ∉ X.fs := fun m => by
      obtain ⟨en, hen, q⟩ := List.mem_filterMap.mp m
      exact apart (List.mem_filterMap.mpr ⟨en, List.mem_cons_of_mem _ hen, q⟩)
    have S3 := J3.suite at3 dat3 fresh notL notF
    suffices all : ∀ {hd' : List ExceptHandler} {l' : List Cl}, Named X hd' l' → wNamed X.K W0 D l' ec ed σ1 H1 → wpAny (model X.prog X.w) X.A (handleBy (.ref a) X.env hd') (SP X pins D) X.xe { t with heap := g3 } from all cls wish
    intro hd' l' nm
    induction nm with
    | nil =>
      intro w0
      refine wpAny_handleBy_nil ?_
      obtain ⟨_, _, _, oe, fv, T, oT, ts', he, hz, hdt, h1, _⟩ := id fl3
      unfold PySem.passOn
      refine wpAny_bind (wpAny_field he hdt h1 ?_)
      have notNone : ¬ ((Value.ref T == Value.none) = true) := by simp
      rw [if_neg notNone]
      have fly : wpAny (model X.prog X.w) X.A (setFlight (.ref a) X.env.frame) (fun _ t4 => wpAny (model X.prog X.w) X.A (throw (.ref a) : Sem Flow) (SP X pins D) X.xe t4) X.xe { t with heap := g3 } := by
        rw [frm]
        exact HandSPX.setFlight_upZ fl3 fun g4 held up4 => wpAny_throw (tk _ _ ⟨a, B, t0, pins, σ1, H1, ec, ed, rfl, J, ground, (up.trans up3).trans up4, .inr (.inr (by rw [stk]; exact held)), fresh, oss, bare, w0⟩)
      first
        | exact wpAny_bind (wpAny_pure (wpAny_bind fly))
        | exact wpAny_bind fly
    | @cons x n c i ts b0 rest q1 q2 hd2 l2 cl sl lo su r ih =>
      rintro ⟨b, isb, yes, no⟩
      refine wpAny_handleBy_cons (codeAny_handlers_test ?_) (by intro q; cases q)
      have LT : PySem.W.Looks (model X.prog X.w) g3 (typeOf (.ref a)) ec := fun A' Q' E' s' k' q' => wpAny_typeOf_ref (k' _ _ at3) (by rw [z3.1]; exact q')
      have LM := PySem.W.exm_one (M := model X.prog X.w) (J3.kIn) LT isb
      have asks : ∀ {Q' : Value → Shared → Prop} {E' : Value → Shared → Prop}, Q' c { t with heap := g3 } → wpAny (model X.prog X.w) (X.A.mark (some (.ref a))) (eval (.Name x q1) X.env) Q' E' { t with heap := g3 } := by
        intro Q' E' q'
        obtain ⟨gl, nodb, known⟩ := cl
        rcases known with hm | ⟨hm, hv, hnn⟩
        · exact ld_glob (X := X.suite a ((a, o3) :: (X.pn ++ pins))) S3 gl hm q' nodb
        · exact ld_blt (X := X.suite a ((a, o3) :: (X.pn ++ pins))) S3 gl hm hv q' hnn nodb
      refine asks (LM.here ?_)
      cases b with
      | false =>
        show wpAny _ X.A (handleBy (.ref a) X.env hd2) _ _ _
        exact ih (no rfl)
      | true =>
        refine codeAny_handlers_suite_as (HandSPX.lands_againZ fl3 fun g4 fl4 up4 => ?_)
        have J4 : Inv X pins σ1 H1 { t with heap := g4 } := J.landed ground fl4.1 ((up.trans up3).trans up4) oss bare
        obtain ⟨o4, v4, at4, z4, dat4⟩ := fl4.there
        have S4 := J4.suite at4 dat4 fresh notL notF
        refine store_ok (X := X.suite a ((a, o4) :: (X.pn ++ pins))) (v := .ref a) S4 nd sl (.inl lo) rfl (fun t5 S5 => ?_) (.inr lo)
        refine wpAny_mono ((su a o4 ec ed (X.pn ++ pins) z4 ⟨_, dat4⟩).run [] t5 _ H1 _ S5 (yes rfl a fresh)) (fun fl6 t6 sp6 => ?_) (fun _ _ z => False.elim z)
        have over : ∀ {σ6 : L2.St} {H6 : Hp} {Q6 : Shared → Prop}, Inv (X.suite a ((a, o4) :: (X.pn ++ pins))) [] σ6 H6 t6 → (∀ t7, Inv X pins (σ6.set i none) H6 t7 → Q6 t7) →
            wpAny (model X.prog X.w) X.A (do bindName X.env n .none; unbindBehindTheSuite X.env n q2) (fun _ t7 => Q6 t7) X.xe t6 := fun S6 q6 => gone_ok (S6.unsuite I.ok) nd sl lo q6
        cases fl6 with
        | next => obtain ⟨σ6, H6, S6, q6⟩ := sp6; exact over S6 fun t7 J7 => ⟨_, _, J7, q6⟩
        | brk => obtain ⟨σ6, H6, S6, q6⟩ := sp6; exact over S6 fun t7 J7 => ⟨_, _, J7, q6⟩
        | cont => obtain ⟨σ6, H6, S6, q6⟩ := sp6; exact over S6 fun t7 J7 => ⟨_, _, J7, q6⟩
        | ret u => obtain ⟨v6, σ6, H6, S6, r6, q6⟩ := sp6; exact over S6 fun t7 J7 => ⟨_, _, _, J7, r6, q6⟩
  refine wpAny_Try_except (wpAny_mono ((inner (wNamed X.K W0 D l) (X.pn ++ pins) back caught PassesOwn.looking).run [] s σ H D (I.toTry _) h) (fun fl t sp => ?_) (fun _ _ z => z))
  cases fl with
  | next => obtain ⟨σ', H', J', q⟩ := sp; exact wpAny_execs_nil ⟨σ', H', J'.ofTry I.ok, q⟩
  | brk => obtain ⟨σ', H', J', q⟩ := sp; exact ⟨σ', H', J'.ofTry I.ok, q⟩
  | cont => obtain ⟨σ', H', J', q⟩ := sp; exact ⟨σ', H', J'.ofTry I.ok, q⟩
  | ret u => obtain ⟨v, σ', H', J', r, q⟩ := sp; exact ⟨v, σ', H', J'.ofTry I.ok, r, q⟩
end
/-- isinstance(e, c) in the suite, e the error with its own dict -/
def rIsS (K : PySem.W.Frag) (a C dx : Addr) : List V → Hp → VK → Prop := fun vs H Q => ∃ (c : V) (u : Value) (b : Bool), vs = [.ref a, c] ∧ ClsV c u ∧ (∃ fs, H dx = some (.xd fs)) ∧ PySem.W.kitOne K (.ref C) u = some b ∧ Q (.bl b) H
theorem call_isS {X : Cx} {a C dx : Addr} {oe : Obj} {pn : List (Addr × Obj)} (T : ExcC X.K C) (hz : Zc (.ref C) (some dx) oe) (hf : ∃ vs, oe.data = .fields vs) : CallR (X.suite a ((a, oe) :: pn)) (.builtin "isinstance") (rIsS X.K a C dx) := by
  intro pins s σ H vs us Q I r h
  obtain ⟨c, u, b, rfl, kc, ⟨fs, hd⟩, e, q⟩ := h
  obtain ⟨u1, u2, rfl, r1, r2⟩ := vals2 r
  cases (show u1 = Value.ref a from r1)
  cases kc.eq r2
  obtain ⟨here, _⟩ := I.pin (a, oe) (List.mem_append.mpr (.inl List.mem_cons_self))
  obtain ⟨fv, hv⟩ := hf
  have at_d : ObjOk X.prog X.w H s.heap dx (.xd fs) := I.hok dx _ hd
  obtain ⟨mA, hns, _⟩ := at_d
  obtain ⟨od, ho, _⟩ := lookIn_ns hns
  have J : PySem.W.InstAt s.heap a oe C (some od) := ⟨here, hz.1, by unfold PySem.W.notCls; rw [hv] <;> rfl, by rw [hz.2]; exact ho⟩
  exact PySem.W.kia_one (al_kitx T) I.kIn J e (fun z => nomatch z) fun tk => ⟨.bl b, H, I.kept (t' := tk) fun _ _ z => z, rfl, q⟩
end AL
set_option Elab.async false
set_option maxRecDepth 100000
set_option maxHeartbeats 4000000
/-! isinstance of a caught own error, its class told where it is read. -/
namespace AL
open PySem PySem.Spec PyProof.Rows L2
def rIsC (K : PySem.W.Frag) (a C : Addr) (cls : Value) (d : Option Addr) : List V → Hp → VK → Prop := fun vs H Q => cls = .ref C ∧ ∃ (dx : Addr), d = some dx ∧ rIsS K a C dx vs H Q
theorem call_isC2 {X : Cx} {a C : Addr} {cls : Value} {d : Option Addr} {oe : Obj} {pn : List (Addr × Obj)} (T : ExcC X.K C) (hz : Zc cls d oe) (hf : ∃ vs, oe.data = .fields vs) : CallR (X.suite a ((a, oe) :: pn)) (.builtin "isinstance") (rIsC X.K a C cls d) := by
  intro pins s σ H vs us Q I r h
  obtain ⟨rfl, dx, rfl, h⟩ := h
  exact call_isS T hz hf pins s σ H vs us Q I r h
end AL
namespace AL
open PySem PySem.Spec PyProof.Rows L2
theorem op_eqS {X : Cx} {a : Addr} {oe : Obj} {pn : List (Addr × Obj)} (hu : X.A.units + 64 < cLine) : OpR (X.suite a ((a, oe) :: pn)) (compareOp .Eq) (rEqD X.K) := op_eqD hu
end AL
set_option Elab.async false
set_option maxRecDepth 100000
set_option exponentiation.threshold 20000
set_option maxHeartbeats 4000000
/-! int(text) and str(int) of up to 4,300 digits, // of ints of any size. -/
namespace PySem
open PySem.W PySem.Calls PySem.NumText PyProof.Rows
theorem al_wp_text {M : Model} {A : Around} {E : Value → Shared → Prop} {s : Shared} {Q : Value → Shared → Prop} {v : Value} {x : Str} {n : Int} (nd : s.heap.NoDigits)
    (rd : (int_private% "readNumeral") (numLimitOf x) 10 (numSeenOf x) = (int_private% "Numeral.value") n) (whole : ((numSeenOf x).length == (numTextOf x).length) = true) (h : Q (.int n s.toks) { s with toks := s.toks + 1 }) :
    wpAny M A ((int_private% "intFromText") v (numTextOf x) 10) Q E s := by
  by_cases short : (numSeenOf x).length ≤ 640
  · have e : numLimitOf x = 0 := if_pos short
    rw [e] at rd
    exact PySem.W.KIN.wp_text short rd whole h
  · have e : numLimitOf x = 4300 := if_neg short
    rw [e] at rd
    obtain ⟨mc, hns, hnone⟩ := nd
    obtain ⟨hp, ge, dr, tk, os⟩ := s
    have lim : ∀ {Q' : Nat → Shared → Prop}, Q' 4300 ⟨hp, ge, dr, tk, os⟩ → wpAny M A Builtin.intMaxStrDigits Q' E ⟨hp, ge, dr, tk, os⟩ := by
      intro Q' q'
      unfold Builtin.intMaxStrDigits
      refine wpAny_bind (wpAny_nsGet hns ?_)
      rw [hnone]
      exact wpAny_pure q'
    repeat (any_goals (first
      | assumption
      | (with_reducible refine wpAny_ite_false (decide_eq_false short) ?_)
      | (with_reducible refine wpAny_ite_true (decide_eq_true whole) ?_)
      | (with_reducible refine lim ?_)
      | wp_step))
    all_goals (try rw [rd])
    all_goals (try dsimp only)
    repeat (any_goals (first
      | assumption
      | (with_reducible refine wpAny_ite_true (decide_eq_true whole) ?_)
      | wp_step))

theorem al_meets_text {x : PySem.Str} {u : Tok} {n : Int} (hx : x.length ≤ sizeLine) (hn : PySem.intText? x = some n) :
    Meets (Builtin.«int.__new__» ⟨[.type "int", .str x u], []⟩) (fun _ R s => s.heap.NoDigits ∧ R (.ok (.ret (.int n s.toks))) { s with toks := s.toks + 1 }) := by
  intro prog w A R s h
  have f1 := F.conv_sub_int
  have f2 := F.madeHere_int
  have f3 := PySem.W.KIN.str_int
  have f4 := PySem.W.KIN.str_idx
  have f5 := PySem.W.KIN.str_trunc
  have f6 : typeOf (.str x u) = pure (.type "str") := rfl
  have rd : (int_private% "readNumeral") (numLimitOf x) 10 (numSeenOf x) = (int_private% "Numeral.value") n ∧ ((numSeenOf x).length == (numTextOf x).length) = true := by
    rcases readAny x hx with ⟨m, h1, h2, h3⟩ | ⟨h1, _⟩
    · rw [hn] at h1
      cases h1
      exact ⟨h3, h2⟩
    · rw [hn] at h1
      cases h1
  have kept := PySem.W.KIN.Hid.mk (And.intro rd h)
  clear rd h hn hx
  obtain ⟨hp, ge, dr, tk, os⟩ := s
  repeat (any_goals (first
    | assumption
    | ((with_reducible show wpAny _ _ ((int_private% "intFromText") _ _ _) _ _ _); refine al_wp_text kept.out.2.1 kept.out.1.1 kept.out.1.2 ?_)
    | wp_step))
  all_goals first | exact kept.out.2.2 | skip
section
variable {prog : Program} {w : World} {A : Around} {E : Value → Shared → Prop} {s : Shared} {Q : Value → Shared → Prop} {x : PySem.Str} {t : Tok} {n : Int}
theorem al_call_text (nd : s.heap.NoDigits) (hx : x.length ≤ sizeLine) (hn : PySem.intText? x = some n) (h : Q (.int n s.toks) { s with toks := s.toks + 1 }) : wpAny (model prog w) A (call (.type "int") [.str x t]) Q E s :=
  call_int_1 (al_meets_text hx hn) ⟨nd, typeIs_int _ _ _, h⟩
end
end PySem
namespace AL
open PySem PySem.Spec PyProof.Rows L2
/-- the limit on digits is as it came -/
def digB (K : PySem.W.Frag) : Bool := decide (PySem.W.nsIn K cStatics "sys.int_max_str_digits" = some none)
theorem noDigits_of {K : PySem.W.Frag} {h : Heap} (X : K.In h) (lim : h.NoLimit) (b : digB K = true) : h.NoDigits := by
  obtain ⟨mc, ns, _⟩ := lim
  refine ⟨mc, ns, ?_⟩
  have e := of_decide_eq_true b
  obtain ⟨o, es, n, ho, hd, _, look⟩ := ns
  unfold PySem.W.nsIn at e
  split at e
  · rename_i c d es' n' sl at_
    have z := (X _ _ at_).symm.trans ho
    cases z
    cases hd
    split at e
    · cases e
    · rename_i none_
      rw [← look]
      unfold nsFind findBy
      rw [← Array.find?_toList, none_]; rfl
  · cases e
section
variable {X : Cx} {k : Nat}
theorem call_int_strL (b : digB X.K = true) : CallR X (.type "int") (fun xs H Q => ∃ a n, xs = [.str a] ∧ PySem.intText? a = some n ∧ a.length ≤ sizeLine ∧ Q (.int n) H) := by
  intro pins s σ H xs us Q I r h
  obtain ⟨a, n, rfl, hn, hl, q⟩ := h
  obtain ⟨u, rfl, t, rfl⟩ := vals1 r
  exact al_call_text (noDigits_of I.kIn I.nolimit b) hl hn ⟨.int n, H, I.tok _, ⟨_, rfl⟩, q⟩
theorem call_str_intL (hd : X.A.handled = none) (b : digB X.K = true) : CallR X (.type "str") (fun xs H Q => ∃ i, xs = [.int i] ∧ i.natAbs < 10 ^ 4300 ∧ Q (.str (toString i)) H) := by
  intro pins s σ H xs us Q I r h
  obtain ⟨i, rfl, hz, q⟩ := h
  obtain ⟨u, rfl, t, rfl⟩ := vals1 r
  exact str_of_int_or hd (noDigits_of I.kIn I.nolimit b) (fun _ => ⟨.str _, H, I.tok _, ⟨_, rfl⟩, q⟩) (fun z => absurd hz (Nat.not_lt.mpr z))
/-- // of an int below 2 ^ 13500 by any divisor but 0 -/
def CDivB (i j : Int) : Prop := j ≠ 0 ∧ i.natAbs < 2 ^ 13500
theorem noPylong_big {i j : Int} (h : i.natAbs < 2 ^ 13500) : Builtin.divisionGoesByPylong i j = false := by
  have hl : i.natAbs.log2 < 13500 := log2_small (by decide) h
  have key : ((if j == 0 then 0 else j.natAbs.log2 / 30 + 1) > 300) → ¬ ((if i == 0 then 0 else i.natAbs.log2 / 30 + 1) > (if j == 0 then 0 else j.natAbs.log2 / 30 + 1) + 150) := by
    intro h1 h2
    split at h2 <;> omega
  show (decide ((if j == 0 then 0 else j.natAbs.log2 / 30 + 1) > 300) && decide ((if i == 0 then 0 else i.natAbs.log2 / 30 + 1) > (if j == 0 then 0 else j.natAbs.log2 / 30 + 1) + 150)) = false
  by_cases h1 : (if j == 0 then 0 else j.natAbs.log2 / 30 + 1) > 300
  · rw [decide_eq_false (key h1), Bool.and_false]
  · rw [decide_eq_false h1, Bool.false_and]
theorem op_fdivB : OpR X (binaryOp .FloorDiv) (rI CDivB fun i j => .int (i.fdiv j)) := by
  intro pins s σ H x y v u Q I rx ry h
  obtain ⟨i, j, rfl, rfl, ⟨hj, hi⟩, q⟩ := h
  obtain ⟨t, rfl⟩ := rx
  obtain ⟨t', rfl⟩ := ry
  exact floordiv_int hj ⟨.int _, H, I.tok _, ⟨_, rfl⟩, q⟩ (.inl (noPylong_big hi))
end
end AL
set_option Elab.async false
set_option maxRecDepth 100000
set_option exponentiation.threshold 70000
set_option maxHeartbeats 4000000
/-! Texts as rows of codes: slices, prefixes, repeated texts, tuple(text). -/
namespace AL
open PySem PySem.Spec PyProof.Rows L2
abbrev S (l : List Nat) : Str := ⟨l.toArray⟩
theorem S_of (z : Str) : ∃ l, z = S l := ⟨z.cps.toList, by cases z; rfl⟩
theorem S_len (l : List Nat) : (S l).length = l.length := by simp [S, Str.length]
theorem S_tl (l : List Nat) : (S l).cps.toList = l := rfl
theorem S_inj {a b : List Nat} : S a = S b ↔ a = b := ⟨fun h => congrArg (fun x : Str => x.cps.toList) h, fun h => by rw [h]⟩
theorem cut_mid (l : List Nat) (i j : Nat) : cutS (S l) (some (i : Int)) (some (j : Int)) = S ((l.take j).drop i) := by
  unfold cutS
  rw [HT.sIx_nat, HT.sIx_nat, S_len]
  refine S_inj.mpr ?_
  show (l.drop (min i l.length)).take (min j l.length - min i l.length) = _
  rw [← List.drop_take]
  have e1 : l.take (min j l.length) = l.take j := by
    refine (List.take_eq_take_iff).mpr ?_
    omega
  rw [e1]
  by_cases h : i ≤ l.length
  · rw [Nat.min_eq_left h]
  · rw [Nat.min_eq_right (by omega), List.drop_eq_nil_of_le (by rw [List.length_take]; omega), List.drop_eq_nil_of_le (by rw [List.length_take]; omega)]
theorem cut_to (l : List Nat) (j : Nat) : cutS (S l) none (some (j : Int)) = S (l.take j) := by
  have e := cut_mid l 0 j
  have z : HT.sIx (S l).length 0 none = HT.sIx (S l).length 0 (some ((0 : Nat) : Int)) := by rw [HT.sIx_nat]; simp [HT.sIx]
  unfold cutS at e ⊢
  rw [z, e, List.drop_zero]
theorem minusS : ("-" : Str) = S [45] := by kernel_rfl
theorem slashS : ("/" : Str) = S [47] := by kernel_rfl
theorem emptyS : ("" : Str) = S [] := by kernel_rfl
theorem digitsS : ("0123456789" : Str) = S [48, 49, 50, 51, 52, 53, 54, 55, 56, 57] := by kernel_rfl
/-- whether a row of codes begins with a minus -/
def neg (l : List Nat) : Bool := decide (l[0]? = some 45)
theorem starts_minus (l : List Nat) : Txt.startswith (S l) "-" = neg l := by
  rw [minusS]
  unfold Txt.startswith neg
  rw [StrLaws.subAt_eq, S_len, S_len, S_tl, S_tl]
  cases l with
  | nil => rfl
  | cons c l =>
    by_cases h : c = 45
    · subst h; simp
    · simp [h]
theorem strip_minus {l : List Nat} (h : ∀ c, (l.drop (neg l).toNat)[0]? = some c → c ≠ 45) : Txt.lstripChars (S l) "-" = S (l.drop (neg l).toNat) := by
  rw [minusS]
  have key : ∀ m : List Nat, (∀ c, m[0]? = some c → c ≠ 45) → m.takeWhile ((S [45]).cps.contains) = [] := by
    intro m hm
    cases m with
    | nil => rfl
    | cons c m =>
      have : c ≠ 45 := hm c rfl
      have z : ((S [45]).cps.contains c) = false := by
        show (#[45] : Array Nat).contains c = false
        simp [this]
      rw [List.takeWhile_cons, z]; rfl
  unfold Txt.lstripChars Txt.stripBy
  cases l with
  | nil => rfl
  | cons c l =>
    by_cases hc : c = 45
    · subst hc
      have hn : neg (45 :: l) = true := by simp [neg]
      rw [hn] at h ⊢
      have hk := key l (fun d e => h d e)
      have lo : stripLo ((S [45]).cps.contains) true (S (45 :: l)) = 1 := by
        show ((45 :: l).takeWhile _).length = 1
        rw [List.takeWhile_cons, show ((S [45]).cps.contains 45) = true by show (#[45] : Array Nat).contains 45 = true; simp, if_pos rfl, hk]; rfl
      have ne : stripSame ((S [45]).cps.contains) true false (S (45 :: l)) = false := by
        unfold stripSame
        rw [lo]; rfl
      rw [ne, if_neg (by decide)]
      unfold stripped
      rw [lo]
      show Builtin.Str.strSub (S (45 :: l)) 1 (S (45 :: l)).length = S l
      rw [S_len, strSub_mk]
      refine S_inj.mpr ?_
      show List.take _ ((45 :: l).drop 1) = l
      simp
    · have hn : neg (c :: l) = false := by simp [neg, hc]
      rw [hn] at h ⊢
      have hk := key (c :: l) (fun d e => by simp at e; rw [← e]; exact hc)
      have same : stripSame ((S [45]).cps.contains) true false (S (c :: l)) = true := by
        unfold stripSame
        have lo : stripLo ((S [45]).cps.contains) true (S (c :: l)) = 0 := by
          show ((c :: l).takeWhile _).length = 0
          rw [hk]; rfl
        rw [lo]
        simp [stripHi]
      rw [same, if_pos rfl]
      rfl
theorem pair_ix {α β : Type} {F : α → β → Prop} : ∀ {xs : List α} {ys : List β}, xs.length = ys.length → (∀ (j : Nat) x y, xs[j]? = some x → ys[j]? = some y → F x y) → Paired F xs ys
  | [], [], _, _ => .nil
  | [], _ :: _, h, _ => by cases h
  | _ :: _, [], h, _ => by cases h
  | x :: xs, y :: ys, h, k => .cons (k 0 x y rfl rfl) (pair_ix (Nat.succ.inj h) fun j a b e f => k (j + 1) a b e f)
/-! ### the rules -/
section
variable {X : Cx}
/-- z * k, z a short text -/
theorem op_mulS : OpR X (binaryOp .Mult) (fun x y H Q => ∃ (z : Str) (k : Nat), x = .str z ∧ y = .int (k : Int) ∧ z.length ≤ 10 ∧ k ≤ 10000 ∧ ∀ z' : Str, z'.length ≤ z.length * k → Q (.str z') H) := by
  intro pins s σ H x y v u Q I rx ry h
  obtain ⟨z, k, rfl, rfl, hz, hk, q⟩ := h
  obtain ⟨t, rfl⟩ := rx
  obtain ⟨t', rfl⟩ := ry
  have hfit : z.length * k ≤ 100000 := Nat.le_trans (Nat.mul_le_mul hz hk) (by decide)
  refine SB.mul ⟨?_, fun h1 _ => ?_, fun _ _ => ?_⟩ fun tk n => ⟨.str _, H, I.tok _, ⟨_, rfl⟩, q _ ?_⟩
  · rw [Bool.or_eq_false_iff]
    exact ⟨decide_eq_false (by omega), decide_eq_false (by omega)⟩
  · have hk0 : 0 < (k : Int) := by omega
    have : ((2 : Int) ^ 63 - 1) / (k : Int) ≥ 10 := by
      rw [ge_iff_le, Int.le_ediv_iff_mul_le hk0]
      have : (10 : Int) * k ≤ 100000 := by omega
      exact Int.le_trans this (by decide)
    omega
  · unfold Builtin.Str.tooLong
    rw [Int.toNat_natCast]
    refine decide_eq_false (Nat.not_lt.mpr (Nat.le_trans hfit (by decide)))
  · unfold Txt.mul
    split
    · exact Nat.zero_le _
    · split
      · rename_i h1 h2
        have hk1 : 1 ≤ k := by omega
        exact Nat.le_mul_of_pos_right _ hk1
      · rw [Int.toNat_natCast]
        have key : ∀ (n : Nat) (acc : Array Nat), ((List.replicate n z.cps).foldl (· ++ ·) acc).size = acc.size + n * z.cps.size := by
          intro n
          induction n with
          | zero => intro acc; simp
          | succ n ih => intro acc; rw [List.replicate_succ, List.foldl_cons, ih, Array.size_append, Nat.succ_mul]; omega
        show ((List.replicate k z.cps).foldl (· ++ ·) #[]).size ≤ z.length * k
        rw [key, Nat.mul_comm k]
        show 0 + z.cps.size * k ≤ z.cps.size * k
        omega
/-- tuple(text) -/
theorem call_tuple_text (hh : X.A.handled = none) : CallR X (.type "tuple") (fun xs H Q => ∃ l : List Nat, xs = [.str (S l)] ∧ l.length ≤ sizeLine ∧ ∀ p, H p = none → Q (.ref p) (upd H p (.tup (l.map fun c => V.str (S [c]))))) := by
  intro pins s σ H xs us Q I r h
  obtain ⟨l, rfl, hl, q⟩ := h
  obtain ⟨u, rfl, t, rfl⟩ := vals1 r
  have hsz : (S l).cps.size = l.length := by simp [S]
  refine call_tuple_str hh _ _ (fun h' tk acc kp it => ?_) (by rw [hsz]; exact hl)
  have gone : s.heap.get? h'.objs.size = none := by
    cases e : s.heap.get? h'.objs.size with
    | none => rfl
    | some o =>
      have z := kp _ _ e
      rw [Heap.get?_none_of_le (Nat.le_refl _)] at z
      cases z
  have fresh : H h'.objs.size = none := I.hok.gone gone
  have vals : Vals (l.map fun c => V.str (S [c])) acc.toList := by
    obtain ⟨i1, i2⟩ := it
    rw [hsz] at i1
    refine pair_ix (by rw [List.length_map]; exact i1.symm.trans Array.length_toList.symm) fun j x y hx hy => ?_
    rw [List.getElem?_map] at hx
    rw [Array.getElem?_toList] at hy
    obtain ⟨c, u, e1, e2⟩ := i2 j y hy
    have e1' : l[j]? = some c := by simpa [S] using e1
    rw [e1'] at hx
    cases hx
    exact ⟨u, e2⟩
  have I2 : Inv X pins σ (upd H h'.objs.size (.tup (l.map fun c => V.str (S [c])))) { s with heap := h'.push { cls := .type "tuple", data := .seq acc }, toks := tk } :=
    I.laidN (t' := tk) (fun b o e => Heap.get?_push_of_some _ (kp b o e)) gone fresh (show ObjOk X.prog X.w _ _ _ (.tup _) from ⟨by rw [List.length_map]; exact hl, acc.toList, vals, by
      rw [show acc.toList.toArray = acc by simp]; exact IsTup.new _ _⟩)
  exact ⟨.ref h'.objs.size, _, I2, rfl, q _ fresh⟩
end
end AL
set_option Elab.async false
set_option maxRecDepth 100000
set_option exponentiation.threshold 70000
/-! What a text of a ratio is read as. -/
namespace AL
open PySem L2 PySem.NumText
def isD (c : Nat) : Bool := decide (48 ≤ c) && decide (c ≤ 57)
theorem isD_mem (c : Nat) : isD c = decide (c ∈ [48, 49, 50, 51, 52, 53, 54, 55, 56, 57]) := by
  unfold isD
  by_cases h : 48 ≤ c ∧ c ≤ 57
  · have : c ∈ [48, 49, 50, 51, 52, 53, 54, 55, 56, 57] := by simp; omega
    simp [h.1, h.2, this]
  · have : ¬ c ∈ [48, 49, 50, 51, 52, 53, 54, 55, 56, 57] := by simp; omega
    simp [this]; omega
/-- where the digits that begin at i end -/
def dEnd (l : List Nat) (i : Nat) : Nat := i + ((l.drop i).takeWhile isD).length
theorem dEnd_ge (l : List Nat) (i : Nat) : i ≤ dEnd l i := Nat.le_add_right _ _
theorem tw_le {p : Nat → Bool} : ∀ l : List Nat, (l.takeWhile p).length ≤ l.length
  | [] => Nat.le_refl _
  | c :: l => by
    rw [List.takeWhile_cons]
    split
    · exact Nat.succ_le_succ (tw_le l)
    · exact Nat.zero_le _
theorem tw_at {p : Nat → Bool} : ∀ (l : List Nat) (j : Nat) (c : Nat), j < (l.takeWhile p).length → l[j]? = some c → p c = true
  | [], j, c, h, _ => by cases h
  | d :: l, j, c, h, e => by
    rw [List.takeWhile_cons] at h
    split at h
    · rename_i hd
      cases j with
      | zero => cases e; exact hd
      | succ j => exact tw_at l j c (Nat.lt_of_succ_lt_succ h) e
    · cases h
theorem tw_end {p : Nat → Bool} : ∀ (l : List Nat) (c : Nat), l[(l.takeWhile p).length]? = some c → p c = false
  | [], c, e => by cases e
  | d :: l, c, e => by
    rw [List.takeWhile_cons] at e
    split at e
    · exact tw_end l c e
    · rename_i hd
      cases e
      exact Bool.eq_false_iff.mpr hd
theorem dEnd_le {l : List Nat} {i : Nat} (h : i ≤ l.length) : dEnd l i ≤ l.length := by
  have := tw_le (p := isD) (l.drop i)
  rw [List.length_drop] at this
  unfold dEnd; omega
theorem dEnd_in {l : List Nat} {i j c : Nat} (h0 : i ≤ j) (h : j < dEnd l i) (e : l[j]? = some c) : isD c = true := by
  refine tw_at (l.drop i) (j - i) c (by unfold dEnd at h; omega) ?_
  rw [List.getElem?_drop, show i + (j - i) = j by omega]
  exact e
theorem dEnd_out {l : List Nat} {i c : Nat} (e : l[dEnd l i]? = some c) : isD c = false := by
  refine tw_end (l.drop i) c ?_
  rw [List.getElem?_drop]
  exact e
/-- the row of digits from i on -/
def rowAt (l : List Nat) (i j : Nat) : List Nat := (l.take j).drop i
theorem rowAt_len {l : List Nat} {i j : Nat} (h : j ≤ l.length) : (rowAt l i j).length = j - i := by
  unfold rowAt
  rw [List.length_drop, List.length_take]; omega
theorem rowAt_digits {l : List Nat} {i : Nat} : AllDigits (rowAt l i (dEnd l i)) := by
  intro c hc
  obtain ⟨j, hj⟩ := List.mem_iff_getElem?.mp hc
  unfold rowAt at hj
  rw [List.getElem?_drop, List.getElem?_take] at hj
  split at hj
  · have := dEnd_in (Nat.le_add_right i j) (by assumption) hj
    unfold isD at this
    simpa using this
  · cases hj
inductive Res | text (c : Nat) | large (n : Nat) | ratio (p q : Int)
/-- the first sign's place behind a minus -/
def fst0 (l : List Nat) : Nat := if neg l = true then 1 else 0
def mid0 (l : List Nat) : Nat := dEnd l (fst0 l)
def end0 (l : List Nat) : Nat := dEnd l (mid0 l + 1)
def slash0 (l : List Nat) : Bool := decide (l[mid0 l]? = some 47)
def sgn (l : List Nat) (n : Int) : Int := if neg l = true then -n else n
def topV (l : List Nat) : Nat := digitsVal (rowAt l (fst0 l) (mid0 l))
def botV (l : List Nat) : Nat := digitsVal (rowAt l (mid0 l + 1) (end0 l))
def red (a b : Nat) : Int × Int := (((a / Nat.gcd a b : Nat) : Int), ((b / Nat.gcd a b : Nat) : Int))
def res (l : List Nat) : Res :=
  if mid0 l = fst0 l then .text (fst0 l + 1) else
  if slash0 l = true then
    if end0 l = mid0 l + 1 then .text (end0 l + 1) else
    if end0 l < l.length then .text (end0 l + 1) else
    if 4000 < mid0 l - fst0 l then .large (mid0 l - fst0 l) else
    if 4000 < end0 l - (mid0 l + 1) then .large (end0 l - (mid0 l + 1)) else
    if botV l = 0 then .text (mid0 l + 2) else .ratio (sgn l (red (topV l) (botV l)).1) (red (topV l) (botV l)).2
  else if mid0 l < l.length then .text (mid0 l + 1) else
    if 4000 < mid0 l - fst0 l then .large (mid0 l - fst0 l) else .ratio (sgn l (topV l)) 1
/-- the first wrong column, 0 if there is none -/
def wcol (l : List Nat) : Nat :=
  if mid0 l = fst0 l then fst0 l + 1 else
  if slash0 l = true then if end0 l = mid0 l + 1 ∨ end0 l < l.length then end0 l + 1 else 0
  else if mid0 l < l.length then mid0 l + 1 else 0
theorem fst0_le (l : List Nat) : fst0 l ≤ l.length := by
  unfold fst0 neg
  cases l with
  | nil => decide
  | cons c l => split <;> simp
theorem mid0_le (l : List Nat) : mid0 l ≤ l.length := dEnd_le (fst0_le l)
theorem fst_mid (l : List Nat) : fst0 l ≤ mid0 l := dEnd_ge _ _
theorem slash_lt {l : List Nat} (h : slash0 l = true) : mid0 l < l.length := by
  have := of_decide_eq_true h
  exact (List.getElem?_eq_some_iff.mp this).1
theorem end0_le {l : List Nat} (h : slash0 l = true) : end0 l ≤ l.length := dEnd_le (slash_lt h)
theorem res_bad {l : List Nat} (h : 0 < wcol l) : res l = .text (wcol l) := by
  unfold wcol at h ⊢
  unfold res
  by_cases h1 : mid0 l = fst0 l
  · rw [if_pos h1, if_pos h1]
  · rw [if_neg h1] at h ⊢
    rw [if_neg h1]
    by_cases h2 : slash0 l = true
    · rw [if_pos h2] at h ⊢
      rw [if_pos h2]
      by_cases h3 : end0 l = mid0 l + 1
      · rw [if_pos h3, if_pos (.inl h3)]
      · rw [if_neg h3]
        by_cases h4 : end0 l < l.length
        · rw [if_pos h4, if_pos (.inr h4)]
        · rw [if_neg (by omega)] at h
          omega
    · rw [if_neg h2] at h ⊢
      rw [if_neg h2]
      by_cases h4 : mid0 l < l.length
      · rw [if_pos h4, if_pos h4]
      · rw [if_neg h4] at h
        omega
/-- a text without a wrong column -/
theorem wcol0 {l : List Nat} (h : wcol l = 0) : fst0 l < mid0 l ∧ ((slash0 l = true ∧ mid0 l + 1 < end0 l ∧ end0 l = l.length) ∨ (slash0 l = false ∧ mid0 l = l.length)) := by
  have a1 := fst_mid l
  have a2 := mid0_le l
  unfold wcol at h
  by_cases h1 : mid0 l = fst0 l
  · rw [if_pos h1] at h; omega
  · rw [if_neg h1] at h
    refine ⟨by omega, ?_⟩
    by_cases h2 : slash0 l = true
    · rw [if_pos h2] at h
      have a3 := end0_le h2
      have a4 : mid0 l + 1 ≤ end0 l := dEnd_ge _ _
      by_cases h3 : end0 l = mid0 l + 1 ∨ end0 l < l.length
      · rw [if_pos h3] at h; omega
      · exact .inl ⟨h2, by omega, by omega⟩
    · rw [if_neg h2] at h
      by_cases h4 : mid0 l < l.length
      · rw [if_pos h4] at h; omega
      · exact .inr ⟨Bool.eq_false_iff.mpr h2, by omega⟩
theorem res_ok {l : List Nat} (h : wcol l = 0) : res l =
    if 4000 < mid0 l - fst0 l then .large (mid0 l - fst0 l) else
    if slash0 l = true then if 4000 < end0 l - (mid0 l + 1) then .large (end0 l - (mid0 l + 1)) else
      if botV l = 0 then .text (mid0 l + 2) else .ratio (sgn l (red (topV l) (botV l)).1) (red (topV l) (botV l)).2
    else .ratio (sgn l (topV l)) 1 := by
  obtain ⟨h1, h2⟩ := wcol0 h
  unfold res
  rw [if_neg (by omega)]
  rcases h2 with ⟨e, h3, h4⟩ | ⟨e, h3⟩
  · rw [if_pos e, if_pos e, if_neg (by omega), if_neg (by omega)]
  · rw [if_neg (by rw [e]; decide), if_neg (by omega)]
    split
    · rfl
    · rw [if_neg (by rw [e]; decide)]
/-! ### Euclid's steps -/
def pairOk (a b : Nat) (i x y : Nat) : Prop := Nat.gcd x y = Nat.gcd a b ∧ (i = 0 → x = a ∧ y = b) ∧ (0 < i → y ≤ x ∧ x * y * 2 ^ (i - 1) ≤ a * b)
theorem pairOk0 (a b : Nat) : pairOk a b 0 a b := ⟨rfl, fun _ => ⟨rfl, rfl⟩, fun h => absurd h (Nat.lt_irrefl _)⟩
theorem pairOk_step {a b i x y : Nat} (h : pairOk a b i x y) (hy : y ≠ 0) : pairOk a b (i + 1) y (x % y) := by
  obtain ⟨h1, h2, h3⟩ := h
  have hlt : x % y < y := Nat.mod_lt _ (by omega)
  refine ⟨?_, fun z => by omega, fun _ => ⟨Nat.le_of_lt hlt, ?_⟩⟩
  · rw [← h1, Nat.gcd_comm x y, Nat.gcd_rec y x, Nat.gcd_comm]
  · rw [Nat.add_sub_cancel]
    by_cases hi : i = 0
    · obtain ⟨rfl, rfl⟩ := h2 hi
      subst hi
      rw [Nat.pow_zero, Nat.mul_one, Nat.mul_comm x y]
      exact Nat.mul_le_mul_left _ (Nat.mod_le _ _)
    · obtain ⟨h4, h5⟩ := h3 (by omega)
      obtain ⟨j, rfl⟩ : ∃ j, i = j + 1 := ⟨i - 1, by omega⟩
      rw [Nat.add_sub_cancel] at h5
      have half : 2 * (x % y) ≤ x := by
        have e := Nat.div_add_mod x y
        have hq : 1 ≤ x / y := (Nat.le_div_iff_mul_le (by omega)).mpr (by omega)
        have hm : y ≤ y * (x / y) := Nat.le_mul_of_pos_right _ hq
        omega
      refine Nat.le_trans ?_ h5
      rw [Nat.pow_succ, Nat.mul_comm (2 ^ j) 2, ← Nat.mul_assoc]
      refine Nat.mul_le_mul_right _ ?_
      rw [Nat.mul_assoc, Nat.mul_comm (x % y) 2, Nat.mul_comm x y]
      exact Nat.mul_le_mul_left _ half
theorem pairOk_zero {a b x y : Nat} (h : pairOk a b 60000 x y) (ha : a < 10 ^ 6000) (hb : b < 10 ^ 6000) : y = 0 := by
  obtain ⟨_, _, h3⟩ := h
  obtain ⟨h4, h5⟩ := h3 (by decide)
  by_cases hz : y = 0
  · exact hz
  · exfalso
    have hab : a * b < 10 ^ 6000 * 10 ^ 6000 := Nat.mul_lt_mul_of_lt_of_lt ha hb
    have hxy : 1 ≤ x * y := Nat.mul_pos (by omega) (by omega)
    have : 1 * 2 ^ (60000 - 1) ≤ x * y * 2 ^ (60000 - 1) := Nat.mul_le_mul_right _ hxy
    have big : (10 : Nat) ^ 6000 * 10 ^ 6000 ≤ 1 * 2 ^ (60000 - 1) := by decide +kernel
    omega
theorem pairOk_end {a b i x : Nat} (h : pairOk a b i x 0) : x = Nat.gcd a b := by
  have := h.1
  rwa [Nat.gcd_zero_right] at this
end AL
set_option Elab.async false
set_option maxRecDepth 100000
set_option exponentiation.threshold 70000
/-! The texts within a text of a ratio. -/
namespace AL
open PySem L2 PySem.NumText
def N4 : Nat := 10 ^ 4000
def N6 : Nat := 10 ^ 6000
theorem pow4000 : N4 < 2 ^ 13500 := by unfold N4; decide +kernel
theorem pow46 : N4 ≤ N6 := Nat.pow_le_pow_right (by decide) (by decide)
theorem no_slash {l : List Nat} : ∀ c ∈ l.take (mid0 l), c ≠ 47 := by
  intro c hc
  obtain ⟨j, hj⟩ := List.mem_iff_getElem?.mp hc
  rw [List.getElem?_take] at hj
  split at hj
  · rename_i hlt
    by_cases h : fst0 l ≤ j
    · have := dEnd_in h hlt hj
      intro e
      rw [e] at this
      exact absurd this (by decide)
    · have hf : fst0 l = 1 ∧ neg l = true := by
        unfold fst0 at h ⊢
        by_cases hn : neg l = true
        · exact ⟨if_pos hn, hn⟩
        · rw [if_neg hn] at h; omega
      have hj0 : j = 0 := by omega
      subst hj0
      have := of_decide_eq_true hf.2
      rw [this] at hj
      cases hj
      decide
  · cases hj
theorem S_app (a b : List Nat) : S a ++ S b = S (a ++ b) := TL.ext_tl (TL.tl_append (S a) (S b))
theorem part_slash {l : List Nat} (e : slash0 l = true) : Txt.partition (S l) "/" = (S (l.take (mid0 l)), ("/" : Str), S (l.drop (mid0 l + 1))) := by
  have hs := of_decide_eq_true e
  have hl : l = l.take (mid0 l) ++ ([47] ++ l.drop (mid0 l + 1)) := by
    have h1 : l.drop (mid0 l) = 47 :: l.drop (mid0 l + 1) := by
      obtain ⟨h2, h3⟩ := List.getElem?_eq_some_iff.mp hs
      rw [List.drop_eq_getElem_cons h2, h3]
    rw [List.singleton_append, ← h1, List.take_append_drop]
  have := TL.partition_app (y := S [47]) (s := 47) (S := []) rfl (a := S (l.take (mid0 l))) (b := S (l.drop (mid0 l + 1))) (fun h => no_slash 47 h rfl)
  rw [S_app, S_app, List.append_assoc, ← hl] at this
  rw [slashS]
  exact this
theorem part_none {l : List Nat} (e : mid0 l = l.length) : Txt.partition (S l) "/" = (S l, Str.empty, Str.empty) := by
  rw [slashS]
  refine TL.partition_none (y := S [47]) (s := 47) (S := []) rfl fun h => ?_
  have h' : 47 ∈ l := h
  refine no_slash (l := l) 47 ?_ rfl
  rw [e, List.take_length]
  exact h'
theorem fst_eq (l : List Nat) : fst0 l = (neg l).toNat := by
  unfold fst0
  cases neg l <;> rfl
theorem neg_take {l : List Nat} (h : fst0 l < mid0 l) : neg (l.take (mid0 l)) = neg l := by
  unfold neg
  rw [List.getElem?_take, if_pos (by omega)]
theorem head_top {l : List Nat} (h : fst0 l < mid0 l) : ∃ c, (rowAt l (fst0 l) (mid0 l))[0]? = some c ∧ isD c = true := by
  have hl : fst0 l < l.length := Nat.lt_of_lt_of_le h (mid0_le l)
  have e : (rowAt l (fst0 l) (mid0 l))[0]? = some l[fst0 l] := by
    unfold rowAt
    rw [List.getElem?_drop, List.getElem?_take, Nat.add_zero, if_pos h, List.getElem?_eq_getElem hl]
  exact ⟨_, e, dEnd_in (Nat.le_refl _) h (List.getElem?_eq_getElem hl)⟩
theorem strip_top {l : List Nat} (h : fst0 l < mid0 l) : Txt.lstripChars (S (l.take (mid0 l))) "-" = S (rowAt l (fst0 l) (mid0 l)) := by
  obtain ⟨c, hc, hd⟩ := head_top h
  have e : (l.take (mid0 l)).drop (neg (l.take (mid0 l))).toNat = rowAt l (fst0 l) (mid0 l) := by
    rw [neg_take h, ← fst_eq]; rfl
  rw [strip_minus, e]
  intro d hdd
  rw [e, hc] at hdd
  cases hdd
  intro z
  rw [z] at hd
  exact absurd hd (by decide)
theorem row_int {l : List Nat} {i : Nat} (h : i < dEnd l i) (hi : i ≤ l.length) (h4 : dEnd l i - i ≤ 4000) : intText? (S (rowAt l i (dEnd l i))) = some ((digitsVal (rowAt l i (dEnd l i)) : Nat) : Int) := by
  have hlen := rowAt_len (l := l) (i := i) (dEnd_le hi)
  refine intText_digits rowAt_digits (fun z => ?_) ?_
  · have : (rowAt l i (dEnd l i)).length = 0 := congrArg List.length z
    omega
  · rw [S_len, hlen]; omega
theorem int_top {l : List Nat} (h : fst0 l < mid0 l) (h4 : mid0 l - fst0 l ≤ 4000) : intText? (S (l.take (mid0 l))) = some (sgn l (topV l)) := by
  have hlen := rowAt_len (l := l) (i := fst0 l) (mid0_le l)
  have hf := fst0_le l
  have hm := mid0_le l
  by_cases hn : neg l = true
  · have hf1 : fst0 l = 1 := by unfold fst0; rw [if_pos hn]
    have h0 : l[0]? = some 45 := of_decide_eq_true hn
    have ht : l.take (mid0 l) = 45 :: rowAt l (fst0 l) (mid0 l) := by
      unfold rowAt
      rw [hf1]
      cases l with
      | nil => cases h0
      | cons c l' =>
        simp at h0
        subst h0
        obtain ⟨j, hj⟩ : ∃ j, mid0 (45 :: l') = j + 1 := ⟨mid0 (45 :: l') - 1, by omega⟩
        rw [hj]; rfl
    rw [intText_neg (cs := rowAt l (fst0 l) (mid0 l)) ht rowAt_digits (fun z => by
      have : (rowAt l (fst0 l) (mid0 l)).length = 0 := congrArg List.length z
      omega) (by rw [S_len, List.length_take]; omega)]
    unfold sgn
    rw [if_pos hn]
    rfl
  · have hf0 : fst0 l = 0 := by unfold fst0; rw [if_neg hn]
    have ht : l.take (mid0 l) = rowAt l (fst0 l) (mid0 l) := by unfold rowAt; rw [hf0]; rfl
    rw [ht]
    unfold sgn
    rw [if_neg hn]
    exact row_int h hf h4
theorem bot_eq {l : List Nat} (e : end0 l = l.length) : l.drop (mid0 l + 1) = rowAt l (mid0 l + 1) (end0 l) := by
  unfold rowAt
  rw [e, List.take_length]
theorem topV_lt {l : List Nat} (h4 : mid0 l - fst0 l ≤ 4000) : topV l < N4 := by
  have := digitsVal_lt _ _ rfl (rowAt_digits (l := l) (i := fst0 l))
  rw [rowAt_len (dEnd_le (fst0_le l))] at this
  exact Nat.lt_of_lt_of_le this (Nat.pow_le_pow_right (by decide) h4)
theorem botV_lt {l : List Nat} (e : slash0 l = true) (h4 : end0 l - (mid0 l + 1) ≤ 4000) : botV l < N4 := by
  have := digitsVal_lt _ _ rfl (rowAt_digits (l := l) (i := mid0 l + 1))
  rw [rowAt_len (dEnd_le (slash_lt e))] at this
  exact Nat.lt_of_lt_of_le this (Nat.pow_le_pow_right (by decide) h4)
theorem sgn_abs (l : List Nat) (n : Nat) : (sgn l (n : Int)).natAbs = n := by
  unfold sgn
  split <;> omega
theorem sgn_div (l : List Nat) (a b : Nat) : (sgn l (a : Int)).fdiv ((Nat.gcd a b : Nat) : Int) = sgn l ((a / Nat.gcd a b : Nat) : Int) := by
  have hd : ((Nat.gcd a b : Nat) : Int) ∣ (a : Int) := Int.natCast_dvd_natCast.mpr (Nat.gcd_dvd_left a b)
  unfold sgn
  split
  · rw [Int.fdiv_eq_ediv_of_nonneg _ (Int.natCast_nonneg _), Int.neg_ediv_of_dvd hd]
    rfl
  · rw [Int.fdiv_eq_ediv_of_nonneg _ (Int.natCast_nonneg _)]
    rfl
end AL
set_option Elab.async false
set_option maxRecDepth 100000
set_option exponentiation.threshold 70000
set_option maxHeartbeats 1000000
namespace AL
open PySem L2
def top (i : Nat) : Stmt := PySem.Challenge.pw_allscales_k00_ratio_texts.main.body.getD i (.Pass ⟨0, 0, 0, 0⟩)
section
variable {P : Program} {w : World} {K : PySem.W.Frag} {mg : Str → Option Value} {base : Heap}
abbrev st_law_pen : Stmt := top 14
theorem sc_law_pen : FnScope ["_law_script", "_law_fold", "_law_cell"] ["_law_script"] (defScope st_law_pen) := ⟨rfl, rfl, rfl, by decide +kernel, rfl, by decide +kernel, by decide +kernel⟩
theorem ok_law_pen (B : Blt mg)  {f_law_pen : Addr} {fd_law_pen : FuncData} (D_law_pen : DefAt K mg "_law_pen" st_law_pen ["_law_script"] f_law_pen fd_law_pen) : FnOk P w K mg base CX0 1 f_law_pen fd_law_pen ["_law_script"] (spPen K) := by
  refine D_law_pen.F.ok sc_law_pen (fun vs H Q E h => ?_) (fun cdv A outer s H vs Q E hr h => ?_)
  · obtain ⟨a, ns, rfl, _⟩ := h; rfl
  · have hu := hu_of hr
    refine ⟨_, (pss_cons (ps_set (i := 1) sc_law_pen.nd rfl (Or.inl rfl) pe_int)
    (pss_cons (ps_for PassesOwn.never rfl (pi_list (pv 0)) (pg_name (i := 2) sc_law_pen.nd rfl (Or.inl rfl))
      (pss_one (ps_set (i := 1) sc_law_pen.nd rfl (Or.inl rfl) (pe_op op_modN (pe_callTy call_int1 (by rfl) B.int_ (by decide +kernel) (pa_cons (pe_op op_add (pe_op op_mul (pv 1) pe_int) (pv 2)) pa_nil)) pe_int))))
    (pss_one (ps_ret (pe_disp (pps_cons pe_str (pe_callTy call_list_of (by rfl) B.list_ (by decide +kernel) (pa_cons (pv 0) pa_nil)) (pps_cons pe_str pe_int (pps_cons pe_str pe_int (pps_cons pe_str pe_int (pps_cons pe_str (pv 1) pps_nil))))) (by rfl) (by rfl) (fun z => by cases z) (by decide)))))), ?_⟩
    obtain ⟨a, ns, rfl, hS, k⟩ := h
    refine ⟨_, rfl, a, rfl, ⟨_, hS⟩, for_list (K := K) (a := a) (xs := ns.map V.int) (fun i σ H' => ∃ (f : Int) (v : Option V), σ = [some (.ref a), some (.int f), v] ∧ H' = H ∧ 0 ≤ f ∧ f < 2147483648) ⟨0, none, rfl, rfl, by decide, by decide⟩ (fun i σ H' _ ⟨_, _, _, e, _⟩ => by rw [e]; exact hS) ?_ ?_⟩
    · rintro i y σ H' hi ⟨f, v, rfl, rfl, h0, h1⟩
      obtain ⟨z, hz, rfl⟩ := map_int hi
      refine ⟨_, rfl, _, _, rfl, rfl, .inr ⟨by decide, by decide⟩, _, rfl, _, _, rfl, rfl, .inl ⟨_, rfl, _, _, rfl, rfl, (by show (1000000007 : Int) ≠ 0; decide), ?_⟩⟩
      have hb := fmod_in (a := f * 41 + z) (b := 1000000007) (by decide)
      exact ⟨_, _, rfl, rfl, hb.1, by omega⟩
    · rintro σ H' ⟨f, v, rfl, rfl, h0, h1⟩
      intro p hp
      refine ⟨_, rfl, a, _, rfl, .inl (Same.seq (AL.Same.new hp) hS), fun l hl => ?_⟩
      have hlp : p ≠ l := fun e => by rw [e, upd_same] at hl; cases hl
      have hl0 : H' l = none := by rw [upd_ne hlp.symm] at hl; exact hl
      refine ⟨_, rfl, Eq.trans (upd_ne hlp) upd_same, penK l 0 0 0 f, rfl, (by show 5 ≤ 15; decide), ?_⟩
      refine k p l _ hp hl0 hlp ⟨ns, 0, 0, 0, f, Eq.trans upd_same (by kernel_rfl), ?_, by decide, by decide, by decide, by decide, h0, h1⟩ fun b o e => ?_
      · rw [upd_ne hlp.symm, upd_same]
      · rw [upd_ne (ne_of_none e hp), upd_ne (ne_of_none e hl0), upd_ne (ne_of_none e hp)]; exact e
abbrev st_law_draw : Stmt := top 15
theorem sc_law_draw : FnScope ["_law_pen_here", "_law_many", "_law_cell", "_law_digit", "_law_blend"] ["_law_pen_here", "_law_many"] (defScope st_law_draw) := ⟨rfl, rfl, rfl, by decide +kernel, rfl, by decide +kernel, by decide +kernel⟩
theorem ok_law_draw (B : Blt mg)  {f_law_draw : Addr} {fd_law_draw : FuncData} (D_law_draw : DefAt K mg "_law_draw" st_law_draw ["_law_pen_here", "_law_many"] f_law_draw fd_law_draw) : FnOk P w K mg base CX0 1 f_law_draw fd_law_draw ["_law_pen_here", "_law_many"] spDraw := by
  refine D_law_draw.F.ok sc_law_draw (fun vs H Q E h => ?_) (fun cdv A outer s H vs Q E hr h => ?_)
  · obtain ⟨p, c, m, k, rfl, _⟩ := h; rfl
  · have hu := hu_of hr
    refine ⟨_, (pss_cons (ps_dput hu (pv 0) pe_str (pe_op op_add (pe_dget hu (pv 0) pe_str (fun _ _ => rfl)) pe_int) rfl)
    (Evl.pss_cut (ps_if (PW.pt (pw_and (pt_cmpR op_eq (pe_dget hu (pv 0) pe_str (fun _ _ => rfl)) pe_int (nomark _)) (pw_and1 (pt_cmpR op_lt (pe_dget hu (pv 0) pe_str (fun _ _ => rfl)) (pe_callB call_len_seq (by rfl) B.len_ (by decide +kernel) (pa_cons (pe_dget hu (pv 0) pe_str (fun _ _ => rfl)) pa_nil)) (nomark _))))) (pss_cons (ps_set (i := 2) sc_law_draw.nd rfl (Or.inl rfl) (pe_ix ix_seq (pe_dget hu (pv 0) pe_str (fun _ _ => rfl)) (pe_dget hu (pv 0) pe_str (fun _ _ => rfl)) (fun _ _ => rfl)))
    (pss_cons (ps_dput hu (pv 0) pe_str (pe_op op_add (pe_dget hu (pv 0) pe_str (fun _ _ => rfl)) pe_int) rfl)
    (pss_one (ps_if (pt_cmpR op_ge (pv 2) (pe_op op_pow pe_int pe_int) (nomark _)) (pss_one (ps_dput hu (pv 0) pe_str (pe_op op_sub (pv 2) (pe_op op_pow pe_int pe_int)) rfl)) (pss_one (ps_dput hu (pv 0) pe_str (pe_op op_modN (pe_callTy call_int1 (by rfl) B.int_ (by decide +kernel) (pa_cons (pe_op op_add (pe_op op_mul (pe_dget hu (pv 0) pe_str (fun _ _ => rfl)) pe_int) (pv 2)) pa_nil)) pe_int) rfl)))))) pss_nil)
    (pss_cons (ps_if (pt_cmpR op_gt (pe_dget hu (pv 0) pe_str (fun _ _ => rfl)) pe_int (nomark _)) (pss_cons (ps_set (i := 3) sc_law_draw.nd rfl (Or.inl rfl) (pe_op op_modN (pe_callTy call_int1 (by rfl) B.int_ (by decide +kernel) (pa_cons (pe_dget hu (pv 0) pe_str (fun _ _ => rfl)) pa_nil)) (pv 1)))
    (pss_cons (ps_dput hu (pv 0) pe_str (pe_op op_fdivN (pe_dget hu (pv 0) pe_str (fun _ _ => rfl)) (pv 1)) rfl)
    (pss_one (ps_ret (pv 3))))) pss_nil)
    (pss_cons (ps_set (i := 4) sc_law_draw.nd rfl (Or.inl rfl) (pe_op op_add (pe_op op_add (pe_dget hu (pv 0) pe_str (fun _ _ => rfl)) (pe_op op_mul (pe_dget hu (pv 0) pe_str (fun _ _ => rfl)) pe_int)) pe_int))
    (pss_one (ps_ret (pe_op op_modN (pe_op op_fdivN (pe_callTy call_int1 (by rfl) B.int_ (by decide +kernel) (pa_cons (pe_op op_modN (pe_op op_pow (pv 4) pe_int) pe_int) pa_nil)) pe_int) (pv 1)))))))), ?_⟩
    obtain ⟨p, c, m, k, rfl, P, hm, hk0, hk1, q⟩ := h
    obtain ⟨ns, i, d, n, f, hp, hc, hi, hd, hn, hnm, hf0, hf1⟩ := P.ex
    have hcp : c ≠ p := fun e => by rw [e, hp] at hc; cases hc
    have s5 : (5 : Nat) < sizeLine := by decide
    -- count
    refine ⟨_, rfl, p, _, rfl, dget (k := Sum.inr "count") hp pen_count, _, _, rfl, rfl, _, rfl, p, _, rfl, dput (k := Sum.inr "count") hp s5 put_count, ?_⟩
    refine ⟨fun σ' H' => ∃ (i' d' f' : Int) (v : Option V), σ' = [some (.ref p), some (.int k), v, none, none] ∧ H' p = some (.dK (penK c i' d' (n + 1) f')) ∧ 0 ≤ i' ∧ 0 ≤ d' ∧ 0 ≤ f' ∧ f' < 2147483648 ∧ Keep p H H', ?_, ?_⟩
    · -- digits == 0 and at < len(cells)
      have n1 : ∀ {o}, upd H p o c = some (.lst (ns.map V.int)) := fun {o} => by rw [upd_ne hcp]; exact hc
      refine ⟨_, rfl, p, _, rfl, dget (k := Sum.inr "digits") upd_same pen_digits, rfl, _, rfl, ?_⟩
      refine ite2 (fun hd0 => ?_) (fun hd0 => ?_)
      · refine ⟨_, rfl, p, _, rfl, dget (k := Sum.inr "at") upd_same pen_at, _, rfl, p, _, rfl, dget (k := Sum.inr "cells") upd_same pen_cells, c, _, rfl, .inl (SqL.of n1), _, _, rfl, rfl, _, rfl, ?_⟩
        refine ite2 (fun hlt => ?_) (fun hlt => ?_)
        · have hlt' := of_decide_eq_true hlt
          rw [List.length_map] at hlt'
          obtain ⟨j, rfl⟩ := Int.eq_ofNat_of_zero_le hi
          have hj : j < ns.length := by omega
          -- cell, at
          refine ⟨_, rfl, p, _, rfl, dget (k := Sum.inr "cells") upd_same pen_cells, _, rfl, p, _, rfl, dget (k := Sum.inr "at") upd_same pen_at, .inl ⟨c, _, _, .int ns[j], rfl, rfl, SqL.of n1, at_of rfl (by rw [List.getElem?_map, List.getElem?_eq_getElem hj]; rfl), ?_⟩⟩
          refine ⟨_, rfl, p, _, rfl, dget (k := Sum.inr "at") upd_same pen_at, _, _, rfl, rfl, _, rfl, p, _, rfl, dput (k := Sum.inr "at") upd_same s5 put_at, ?_⟩
          refine ⟨_, rfl, _, _, rfl, rfl, ⟨by decide, by decide, by decide⟩, _, _, rfl, rfl, _, rfl, ?_⟩
          refine ite2 (fun hc18 => ?_) (fun hc18 => ?_)
          · have hc18' := of_decide_eq_true hc18
            refine ⟨_, rfl, _, _, rfl, rfl, ⟨by decide, by decide, by decide⟩, _, _, rfl, rfl, _, rfl, p, _, rfl, dput (k := Sum.inr "digits") upd_same s5 put_digits, ?_⟩
            refine ⟨_, _, _, _, rfl, upd_same, by omega, by omega, hf0, hf1, fun b o nb e => ?_⟩
            rw [upd_ne nb, upd_ne nb, upd_ne nb]; exact e
          · refine ⟨_, rfl, p, _, rfl, dget (k := Sum.inr "fold") upd_same pen_fold, _, _, rfl, rfl, .inr ⟨by decide, by decide⟩, _, rfl, _, _, rfl, rfl, .inl ⟨_, rfl, _, _, rfl, rfl, (by show (2147483587 : Int) ≠ 0; decide), _, rfl, p, _, rfl, dput (k := Sum.inr "fold") upd_same s5 put_fold, ?_⟩⟩
            have hb := fmod_in (a := f * 69069 + ns[j]) (b := 2147483587) (by decide)
            refine ⟨_, _, _, _, rfl, upd_same, by omega, hd, hb.1, by omega, fun b o nb e => ?_⟩
            rw [upd_ne nb, upd_ne nb, upd_ne nb]; exact e
        · exact ⟨_, _, _, _, rfl, upd_same, hi, hd, hf0, hf1, Keep.upd⟩
      · exact iteF ⟨_, _, _, _, rfl, upd_same, hi, hd, hf0, hf1, Keep.upd⟩
    · rintro σ H1 ⟨i1, d1, f1, v, rfl, hp1, hi1, hd1, hf01, hf11, kp⟩
      have pen' : ∀ {H2 : Hp} {i2 d2 f2 : Int}, H2 p = some (.dK (penK c i2 d2 (n + 1) f2)) → 0 ≤ i2 → 0 ≤ d2 → 0 ≤ f2 → f2 < 2147483648 → Keep p H H2 → Pen H2 p c (m + 1) := fun {H2 i2 d2 f2} e a1 a2 a3 a4 kk =>
        ⟨ns, i2, d2, n + 1, f2, e, kk c _ hcp hc, a1, a2, by omega, by omega, a3, a4⟩
      refine ⟨_, rfl, p, _, rfl, dget (k := Sum.inr "digits") hp1 pen_digits, _, _, rfl, rfl, _, rfl, ?_⟩
      refine ite2 (fun hpos => ?_) (fun hpos => ?_)
      · have hpos' := of_decide_eq_true hpos
        refine ⟨_, rfl, p, _, rfl, dget (k := Sum.inr "digits") hp1 pen_digits, .inl ⟨_, rfl, _, rfl, _, _, rfl, rfl, by show k ≠ 0; omega, ?_⟩⟩
        refine ⟨_, rfl, p, _, rfl, dget (k := Sum.inr "digits") hp1 pen_digits, _, rfl, _, _, rfl, rfl, ⟨by show k ≠ 0; omega, by show k.natAbs < 1073741824; omega⟩, _, rfl, p, _, rfl, dput (k := Sum.inr "digits") hp1 s5 put_digits, _, rfl, ?_⟩
        have hb := fmod_in (a := d1) (b := k) hk0
        have kk : Keep p H (upd H1 p (.dK (penK c i1 (d1.fdiv k) (n + 1) f1))) := kp.trans Keep.upd
        exact q _ _ hb.1 hb.2 (pen' upd_same hi1 (fdiv_nn hd1 hk0) hf01 hf11 kk) kk
      · refine ⟨_, rfl, p, _, rfl, dget (k := Sum.inr "fold") hp1 pen_fold, _, rfl, p, _, rfl, dget (k := Sum.inr "count") hp1 pen_count, _, _, rfl, rfl, .inr ⟨by decide, by decide⟩, _, _, rfl, rfl, _, _, rfl, rfl, ?_⟩
        refine ⟨_, rfl, _, _, rfl, rfl, ⟨by decide, by decide, by show (f1 + (n + 1) * 7907 + 37).natAbs < 2 ^ 64; omega⟩, _, _, rfl, rfl, (by show (2305843009213693951 : Int) ≠ 0; decide), .inl ⟨_, rfl, _, _, rfl, rfl, ⟨by decide, by decide⟩, _, rfl, _, _, rfl, rfl, by show k ≠ 0; omega, ?_⟩⟩
        have hb := fmod_in (a := (((f1 + (n + 1) * 7907 + 37) ^ ((17 : Int)).toNat).fmod 2305843009213693951).fdiv 128) (b := k) hk0
        exact q _ _ hb.1 hb.2 (pen' hp1 hi1 hd1 hf01 hf11 kp) kp
abbrev st_law_pick : Stmt := top 16
theorem sc_law_pick : FnScope ["_law_pen_here", "_law_some"] ["_law_pen_here", "_law_some"] (defScope st_law_pick) := ⟨rfl, rfl, rfl, by decide +kernel, rfl, by decide +kernel, by decide +kernel⟩
theorem ok_law_pick (B : Blt mg)  {f_law_draw : Addr} {fd_law_draw : FuncData} (D_law_draw : DefAt K mg "_law_draw" st_law_draw ["_law_pen_here", "_law_many"] f_law_draw fd_law_draw) {f_law_pick : Addr} {fd_law_pick : FuncData} (D_law_pick : DefAt K mg "_law_pick" st_law_pick ["_law_pen_here", "_law_some"] f_law_pick fd_law_pick) : FnOk P w K mg base CX0 2 f_law_pick fd_law_pick ["_law_pen_here", "_law_some"] (spPick K) := by
  have OK_law_draw : FnOk P w K mg base CX0 1 f_law_draw fd_law_draw ["_law_pen_here", "_law_many"] spDraw := ok_law_draw B  D_law_draw
  refine D_law_pick.F.ok sc_law_pick (fun vs H Q E h => ?_) (fun cdv A outer s H vs Q E hr h => ?_)
  · obtain ⟨p, c, a, m, xs, rfl, _⟩ := h; rfl
  · have hu := hu_of hr
    refine ⟨_, (pss_one (ps_ret (pe_ix ix_list (pv 1) (pe_call OK_law_draw (hr.mono (by decide)) rfl D_law_draw.m D_law_draw.F.kp D_law_draw.b .nil pass0 (pa_cons (pv 0) (pa_cons (pe_callB call_len_seq (by rfl) B.len_ (by decide +kernel) (pa_cons (pv 1) pa_nil)) pa_nil))) (fun _ _ => rfl)))), ?_⟩
    obtain ⟨p, c, a, m, xs, rfl, P, hm, hS, hl0, hl1, q⟩ := h
    refine ⟨_, rfl, _, rfl, _, rfl, a, xs, rfl, .inl hS, p, c, m, _, rfl, P, hm, by omega, by omega, fun r H' h0 h1 P' kp => ?_⟩
    obtain ⟨j, rfl⟩ := Int.eq_ofNat_of_zero_le h0
    have hj : j < xs.length := by omega
    exact ⟨a, xs, _, xs[j], rfl, rfl, kp.seqL P hS, at_of rfl (List.getElem?_eq_getElem hj), q j _ H' (List.getElem?_eq_getElem hj) P' kp⟩
abbrev st_law_big : Stmt := top 17
theorem sc_law_big : FnScope ["_law_pen_here", "_law_figures", "_law_total", "_law_k"] ["_law_pen_here", "_law_figures"] (defScope st_law_big) := ⟨rfl, rfl, rfl, by decide +kernel, rfl, by decide +kernel, by decide +kernel⟩
theorem ok_law_big (B : Blt mg)  {f_law_draw : Addr} {fd_law_draw : FuncData} (D_law_draw : DefAt K mg "_law_draw" st_law_draw ["_law_pen_here", "_law_many"] f_law_draw fd_law_draw) {f_law_pick : Addr} {fd_law_pick : FuncData} (D_law_pick : DefAt K mg "_law_pick" st_law_pick ["_law_pen_here", "_law_some"] f_law_pick fd_law_pick) {f_law_big : Addr} {fd_law_big : FuncData} (D_law_big : DefAt K mg "_law_big" st_law_big ["_law_pen_here", "_law_figures"] f_law_big fd_law_big) : FnOk P w K mg base CX0 3 f_law_big fd_law_big ["_law_pen_here", "_law_figures"] spBig := by
  have OK_law_draw : FnOk P w K mg base CX0 1 f_law_draw fd_law_draw ["_law_pen_here", "_law_many"] spDraw := ok_law_draw B  D_law_draw
  have OK_law_pick : FnOk P w K mg base CX0 2 f_law_pick fd_law_pick ["_law_pen_here", "_law_some"] (spPick K) := ok_law_pick B  D_law_draw D_law_pick
  refine D_law_big.F.ok sc_law_big (fun vs H Q E h => ?_) (fun cdv A outer s H vs Q E hr h => ?_)
  · obtain ⟨p, c, m, k, rfl, _⟩ := h; rfl
  · have hu := hu_of hr
    refine ⟨_, (pss_cons (ps_set (i := 2) sc_law_big.nd rfl (Or.inl rfl) pe_int)
    (pss_cons (ps_for PassesOwn.never rfl (pi_range1 rfl B.range_ (pa_cons (pe_call OK_law_pick (hr.mono (by decide)) rfl D_law_pick.m D_law_pick.F.kp D_law_pick.b .nil pass0 (pa_cons (pv 0) (pa_cons (pe_lst (pa_cons pe_int (pa_cons pe_int (pa_cons pe_int (pa_cons pe_int (pa_cons pe_int (pa_cons (pe_op op_fdivN (pe_op op_add (pv 1) pe_int) pe_int) pa_nil))))))) pa_nil))) pa_nil)) (pg_name (i := 3) sc_law_big.nd rfl (Or.inl rfl))
      (pss_one (ps_set (i := 2) sc_law_big.nd rfl (Or.inl rfl) (pe_op op_add (pe_op op_mul (pv 2) pe_int) (pe_call OK_law_draw (hr.mono (by decide)) rfl D_law_draw.m D_law_draw.F.kp D_law_draw.b .nil pass0 (pa_cons (pv 0) (pa_cons pe_int pa_nil)))))))
    (pss_one (ps_ret (pe_callTy call_int_str (by rfl) B.int_ (by decide +kernel) (pa_cons (pe_slice sl_str (pe_callTy call_str_int (by rfl) B.str_ (by decide +kernel) (pa_cons (pv 2) pa_nil)) (po_some (pe_un un_neg (pv 1))) po_none) pa_nil)))))), ?_⟩
    obtain ⟨p, c, m, k, rfl, P, hm, hk0, hk1, q⟩ := h
    refine ⟨_, rfl, _, rfl, _, _, rfl, rfl, _, _, rfl, rfl, ⟨by decide, by decide⟩, (by show 6 ≤ sizeLine; decide), fun l hl => ?_⟩
    refine ⟨p, c, l, m, _, rfl, P.same (AL.Same.new hl), by omega, SqL.of upd_same, (by show 0 < 6; decide), (by show 6 < 1000000000; decide), fun j x H1 hx P1 k1 => ?_⟩
    have hx' : ∃ t : Nat, x = V.int (t : Int) ∧ t ≤ 134 := by
      refine pick_of (P := fun x => ∃ t : Nat, x = V.int (t : Int) ∧ t ≤ 134) (fun y hy => ?_) hx
      simp only [List.mem_cons, List.not_mem_nil, or_false] at hy
      rcases hy with rfl | rfl | rfl | rfl | rfl | rfl
      · exact ⟨1, rfl, by decide⟩
      · exact ⟨1, rfl, by decide⟩
      · exact ⟨1, rfl, by decide⟩
      · exact ⟨2, rfl, by decide⟩
      · exact ⟨3, rfl, by decide⟩
      · refine ⟨(k + 2) / 3, ?_, by omega⟩
        rw [Int.fdiv_eq_ediv_of_nonneg _ (by decide)]
        congr 1
    obtain ⟨t, rfl, ht⟩ := hx'
    have kk1 : Keep p H H1 := (Keep.new hl).trans k1
    refine ⟨_, rfl, by omega, by omega, for_range (lo := 0) (n := ((t : Int)).toNat) (fun i σ H' => ∃ (n : Nat) (v : Option V), σ = [some (.ref p), some (.int (k : Int)), some (.int (n : Int)), v] ∧ n < 1000 ^ i ∧ Pen H' p c (m + 1 + i) ∧ Keep p H H') ⟨0, none, rfl, by decide, P1, kk1⟩ ?_ ?_⟩
    · rintro i σ H' hi ⟨n, v, rfl, hn, P2, k2⟩
      have hi' : i < t := by omega
      refine ⟨_, rfl, _, _, rfl, rfl, .inr ⟨by decide, by decide⟩, _, rfl, p, c, m + 1 + i, _, rfl, P2, by omega, by decide, by decide, fun r H2 hr0 hr1 P3 k3 => ?_⟩
      obtain ⟨r, rfl⟩ := Int.eq_ofNat_of_zero_le hr0
      refine ⟨_, _, rfl, rfl, ⟨n * 1000 + r, some (.int (0 + (i : Int))), ?_, ?_, P3, k2.trans k3⟩⟩
      · rfl
      · rw [Nat.pow_succ]; omega
    · rintro σ H' ⟨n, v, rfl, hn, P2, k2⟩
      have hn' : n < 10 ^ 402 := by
        rw [thousand] at hn
        exact Nat.lt_of_lt_of_le hn (Nat.pow_le_pow_right (by decide) (by omega))
      have hl2 : (TL.numL n).length ≤ 402 := TL.numL_len (by decide) hn'
      have hld := last_digits (n := n) (k := k) hk0 (by omega)
      have hz : (Str.ofString (toString ((n : Nat) : Int))).length ≤ sizeLine := by
        rw [show (Str.ofString (toString ((n : Nat) : Int))).length = (TL.numL n).length by rw [TL.len_tl]; exact congrArg List.length (TL.tl_num n)]
        exact Nat.le_trans hl2 (by decide)
      refine ⟨_, rfl, _, rfl, log2_small (by decide) (Nat.lt_trans hn' pow402), _, rfl, _, rfl, _, rfl, _, rfl, hz, _, _, rfl, hld.2, hld.1, ?_⟩
      exact q _ _ (Nat.mod_lt _ (Nat.pow_pos (by decide))) (P2.mono (by omega)) k2
end
end AL
set_option Elab.async false
set_option maxRecDepth 100000
set_option exponentiation.threshold 70000
set_option maxHeartbeats 1000000
namespace AL
open PySem L2

/-- one sign, a digit -/
def oneD (m : List Nat) : Bool := match m with | [c] => isD c | _ => false
theorem in_dig (m : List Nat) : inV (.str (S m)) (([48, 49, 50, 51, 52, 53, 54, 55, 56, 57] : List Nat).map fun c => V.str (S [c])) = oneD m := by
  unfold inV
  have e : ∀ c, eqV (.str (S [c])) (.str (S m)) = decide ([c] = m) := fun c => by
    show decide (S [c] = S m) = decide ([c] = m)
    exact decide_eq_decide.mpr S_inj
  simp only [List.map_cons, List.map_nil, List.any_cons, List.any_nil, e]
  match m with
  | [] => rfl
  | [d] =>
    show _ = isD d
    rw [isD_mem]
    simp [eq_comm]
  | _ :: _ :: _ => simp [oneD]
theorem row_one {l : List Nat} {j : Nat} : rowAt l j (j + 1) = (l[j]?).toList := by
  unfold rowAt
  rw [List.take_add_one, List.drop_append]
  by_cases h : j ≤ l.length
  · rw [List.length_take, Nat.min_eq_left h, Nat.sub_self, List.drop_eq_nil_of_le (by rw [List.length_take]; omega), List.nil_append, List.drop_zero]
  · rw [List.getElem?_eq_none (by omega), List.drop_eq_nil_of_le (by rw [List.length_take]; omega)]
    simp

theorem fmod_nat (a b : Nat) : ((a : Int)).fmod ((b : Nat) : Int) = ((a % b : Nat) : Int) := by
  rw [Int.fmod_eq_emod_of_nonneg _ (Int.natCast_nonneg b)]
  rfl
theorem fdiv_nat (a b : Nat) : ((a : Int)).fdiv ((b : Nat) : Int) = ((a / b : Nat) : Int) := by
  rw [Int.fdiv_eq_ediv_of_nonneg _ (by omega)]
  rfl

/-- _law_gcd(a, b) -/
def spGcdL : Sp := fun vs H Q _ => ∃ (a b : Int), vs = [.int a, .int b] ∧ a.natAbs < N6 ∧ b.natAbs < N6 ∧ Q (.int ((Nat.gcd a.natAbs b.natAbs : Nat) : Int)) H
/-- _law_q(a, b) -/
def spQ : Sp := fun vs H Q _ => ∃ (a b : Nat), vs = [.int (a : Int), .int (b : Int)] ∧ a < N4 ∧ b < N4 ∧ b ≠ 0 ∧ ∀ t, H t = none → Q (.ref t) (upd H t (.tup [.int (red a b).1, .int (red a b).2]))
/-- _law_is_whole(i) -/
def spWhole : Sp := fun vs H Q _ => ∃ (i : Int), vs = [.int i] ∧ Q (.bl true) H
/-- _law_is_ratio(t) -/
def spIsRat (K : PySem.W.Frag) : Sp := fun vs H Q _ => ∃ (t : Addr) (a b : Int), vs = [.ref t] ∧ H t = some (.tup [.int a, .int b]) ∧ a.natAbs < N6 ∧ b.natAbs < N6 ∧ 0 < b ∧ Nat.gcd a.natAbs b.natAbs = 1 ∧ Q (.bl true) H
/-- _law_digits_end(text, at) -/
def spEndL : Sp := fun vs H Q _ => ∃ (l : List Nat) (i : Nat), vs = [.str (S l), .int (i : Int)] ∧ i ≤ l.length ∧ l.length ≤ 20000 ∧ ∀ H', Same H H' → Q (.int ((dEnd l i : Nat) : Int)) H'
/-- digits_end(text, start) -/
def spEnd : Sp := fun vs H Q _ => ∃ (l : List Nat) (i : Nat), vs = [.str (S l), .int (i : Int)] ∧ i ≤ l.length ∧ l.length ≤ 20000 ∧ Q (.int ((dEnd l i : Nat) : Int)) H
/-- wrong_column(text) -/
def spCol : Sp := fun vs H Q _ => ∃ (l : List Nat), vs = [.str (S l)] ∧ l.length ≤ 20000 ∧ Q (.int ((wcol l : Nat) : Int)) H
/-- lowest(top, bottom) -/
def spLow : Sp := fun vs H Q _ => ∃ (a : Int) (b : Nat), vs = [.int a, .int (b : Int)] ∧ a.natAbs < N4 ∧ b < N4 ∧ b ≠ 0 ∧
  ∀ t, H t = none → Q (.ref t) (upd H t (.tup [.int (a.fdiv ((Nat.gcd a.natAbs b : Nat) : Int)), .int ((b / Nat.gcd a.natAbs b : Nat) : Int)]))
section
variable {P : Program} {w : World} {K : PySem.W.Frag} {mg : Str → Option Value} {base : Heap}
abbrev st_law_gcd : Stmt := top 18
theorem sc_law_gcd : FnScope ["_law_one", "_law_two", "_law_lap"] ["_law_one", "_law_two"] (defScope st_law_gcd) := ⟨rfl, rfl, rfl, by decide +kernel, rfl, by decide +kernel, by decide +kernel⟩
theorem ok_law_gcd (B : Blt mg)  {f_law_gcd : Addr} {fd_law_gcd : FuncData} (D_law_gcd : DefAt K mg "_law_gcd" st_law_gcd ["_law_one", "_law_two"] f_law_gcd fd_law_gcd) : FnOk P w K mg base CX0 1 f_law_gcd fd_law_gcd ["_law_one", "_law_two"] spGcdL := by
  refine D_law_gcd.F.ok sc_law_gcd (fun vs H Q E h => ?_) (fun cdv A outer s H vs Q E hr h => ?_)
  · obtain ⟨a, b, rfl, _⟩ := h; rfl
  · have hu := hu_of hr
    refine ⟨_, (pss_cons (ps_par (i := 0) (j := 1) (by rfl) sc_law_gcd.nd rfl rfl (by decide) rfl rfl (pa_cons (pe_callB call_abs (by rfl) B.abs_ (by decide +kernel) (pa_cons (pv 0) pa_nil)) (pa_cons (pe_callB call_abs (by rfl) B.abs_ (by decide +kernel) (pa_cons (pv 1) pa_nil)) pa_nil)) (by rfl))
    (pss_cons (ps_for PassesOwn.never rfl (pi_range1 rfl B.range_ (pa_cons pe_int pa_nil)) (pg_name (i := 2) sc_law_gcd.nd rfl (Or.inl rfl))
      (pss_cons (ps_if (pt_cmpR op_eq (pv 1) pe_int (nomark _)) (pss_one ps_break) pss_nil)
    (pss_one (ps_par (i := 0) (j := 1) (by rfl) sc_law_gcd.nd rfl rfl (by decide) rfl rfl (pa_cons (pv 1) (pa_cons (pe_op op_modN (pe_callTy call_int1 (by rfl) B.int_ (by decide +kernel) (pa_cons (pv 0) pa_nil)) (pv 1)) pa_nil)) (by rfl)))))
    (pss_one (ps_ret (pv 0))))), ?_⟩
    obtain ⟨a, b, rfl, ha, hb, q⟩ := h
    have eabs : ∀ i : Int, (if i < 0 then -i else i) = ((i.natAbs : Nat) : Int) := fun i => by split <;> omega
    refine ⟨_, rfl, _, rfl, _, rfl, _, rfl, _, _, rfl, ?_⟩
    refine ⟨_, rfl, by decide, by decide, for_range (lo := 0) (n := 60000) (fun i σ H' => ∃ (x y : Nat) (v : Option V), σ = [some (.int (x : Int)), some (.int (y : Int)), v] ∧ H' = H ∧ pairOk a.natAbs b.natAbs i x y) ⟨a.natAbs, b.natAbs, none, by rw [← eabs, ← eabs]; rfl, rfl, pairOk0 _ _⟩ ?_ ?_⟩
    · rintro i σ H' hi ⟨x, y, v, rfl, rfl, hp⟩
      refine ⟨_, rfl, rfl, _, rfl, ?_⟩
      refine ite2 (fun h0 => ?_) (fun h0 => ?_)
      · have hy0 : y = 0 := vi_eq (j := 0) h0
        subst hy0
        refine ⟨_, rfl, ?_⟩
        rw [pairOk_end hp]; exact q
      · have hy0 : y ≠ 0 := vi_ne (j := 0) h0
        refine ⟨_, rfl, _, rfl, .inl ⟨_, rfl, _, rfl, _, _, rfl, rfl, by show (y : Int) ≠ 0; omega, _, _, rfl, ?_⟩⟩
        refine ⟨y, x % y, some (.int (0 + (i : Int))), ?_, rfl, pairOk_step hp hy0⟩
        rw [← fmod_nat]
        rfl
    · rintro σ H' ⟨x, y, v, rfl, rfl, hp⟩
      have hy0 := pairOk_zero hp ha hb
      subst hy0
      refine ⟨_, rfl, ?_⟩
      rw [pairOk_end hp]; exact q
abbrev st_law_q : Stmt := top 19
theorem sc_law_q : FnScope ["_law_top", "_law_bottom", "_law_by"] ["_law_top", "_law_bottom"] (defScope st_law_q) := ⟨rfl, rfl, rfl, by decide +kernel, rfl, by decide +kernel, by decide +kernel⟩
theorem ok_law_q (B : Blt mg)  {f_law_gcd : Addr} {fd_law_gcd : FuncData} (D_law_gcd : DefAt K mg "_law_gcd" st_law_gcd ["_law_one", "_law_two"] f_law_gcd fd_law_gcd) {f_law_q : Addr} {fd_law_q : FuncData} (D_law_q : DefAt K mg "_law_q" st_law_q ["_law_top", "_law_bottom"] f_law_q fd_law_q) : FnOk P w K mg base CX0 2 f_law_q fd_law_q ["_law_top", "_law_bottom"] spQ := by
  have OK_law_gcd : FnOk P w K mg base CX0 1 f_law_gcd fd_law_gcd ["_law_one", "_law_two"] spGcdL := ok_law_gcd B  D_law_gcd
  refine D_law_q.F.ok sc_law_q (fun vs H Q E h => ?_) (fun cdv A outer s H vs Q E hr h => ?_)
  · obtain ⟨a, b, rfl, _⟩ := h; rfl
  · have hu := hu_of hr
    refine ⟨_, (pss_cons (ps_set (i := 2) sc_law_q.nd rfl (Or.inl rfl) (pe_call OK_law_gcd (hr.mono (by decide)) rfl D_law_gcd.m D_law_gcd.F.kp D_law_gcd.b .nil pass0 (pa_cons (pv 0) (pa_cons (pv 1) pa_nil))))
    (pss_cons (ps_if (pt_cmpR op_lt (pv 1) pe_int (nomark _)) (pss_one (ps_set (i := 2) sc_law_q.nd rfl (Or.inl rfl) (pe_un un_neg (pv 2)))) pss_nil)
    (pss_one (ps_ret (pe_tup (pa_cons (pe_op op_fdivB (pv 0) (pv 2)) (pa_cons (pe_op op_fdivB (pv 1) (pv 2)) pa_nil))))))), ?_⟩
    obtain ⟨a, b, rfl, ha, hb, h0, q⟩ := h
    refine ⟨_, rfl, _, rfl, a, b, rfl, (Nat.lt_of_lt_of_le (by assumption) pow46), (Nat.lt_of_lt_of_le (by assumption) pow46), ?_⟩
    refine ⟨_, rfl, _, _, rfl, rfl, _, rfl, ?_⟩
    refine ite2 (fun hneg => absurd (of_decide_eq_true hneg) (by omega)) (fun _ => ?_)
    have hg : Nat.gcd a b ≠ 0 := fun z => h0 (Nat.eq_zero_of_gcd_eq_zero_right z)
    refine ⟨_, rfl, _, rfl, _, _, rfl, rfl, ⟨by show ((Nat.gcd a b : Nat) : Int) ≠ 0; omega, ?_⟩, _, rfl, _, rfl, _, _, rfl, rfl, ⟨by show ((Nat.gcd a b : Nat) : Int) ≠ 0; omega, ?_⟩, (by show 2 ≤ sizeLine; decide), fun t ht => ?_⟩
    · exact Nat.lt_trans ha pow4000
    · exact Nat.lt_trans hb pow4000
    · have z := q t ht
      rw [red, ← fdiv_nat, ← fdiv_nat] at z
      exact z
abbrev st_law_is_whole : Stmt := top 20
theorem sc_law_is_whole : FnScope ["_law_value"] ["_law_value"] (defScope st_law_is_whole) := ⟨rfl, rfl, rfl, by decide +kernel, rfl, by decide +kernel, by decide +kernel⟩
theorem ok_law_is_whole (B : Blt mg)  {f_law_is_whole : Addr} {fd_law_is_whole : FuncData} (D_law_is_whole : DefAt K mg "_law_is_whole" st_law_is_whole ["_law_value"] f_law_is_whole fd_law_is_whole) : FnOk P w K mg base CX0 1 f_law_is_whole fd_law_is_whole ["_law_value"] spWhole := by
  refine D_law_is_whole.F.ok sc_law_is_whole (fun vs H Q E h => ?_) (fun cdv A outer s H vs Q E hr h => ?_)
  · obtain ⟨i, rfl, _⟩ := h; rfl
  · have hu := hu_of hr
    refine ⟨_, (pss_one (ps_ret (pe_and (pe_callB call_isi (by rfl) B.isinstance_ (by decide +kernel) (pa_cons (pv 0) (pa_cons (pe_bltn (v := .ty "int") (by rfl) B.int_ PyProof.Rows.Boot.«int» rfl) pa_nil))) (pe_one (pe_not (pe_callB call_isi (by rfl) B.isinstance_ (by decide +kernel) (pa_cons (pv 0) (pa_cons (pe_bltn (v := .ty "bool") (by rfl) B.bool_ PyProof.Rows.Boot.«bool» rfl) pa_nil)))))))), ?_⟩
    obtain ⟨i, rfl, q⟩ := h
    refine ⟨_, rfl, _, _, _, _, _, rfl, ClsV.ty _, TyX.base (.int _), rfl, true, rfl, ?_⟩
    refine iteT ?_
    refine ⟨_, rfl, _, _, _, _, _, rfl, ClsV.ty _, TyX.base (.int _), rfl, _, rfl, ?_⟩
    exact q
abbrev st_law_is_ratio : Stmt := top 21
theorem sc_law_is_ratio : FnScope ["_law_value"] ["_law_value"] (defScope st_law_is_ratio) := ⟨rfl, rfl, rfl, by decide +kernel, rfl, by decide +kernel, by decide +kernel⟩
theorem ok_law_is_ratio (B : Blt mg)  {f_law_gcd : Addr} {fd_law_gcd : FuncData} (D_law_gcd : DefAt K mg "_law_gcd" st_law_gcd ["_law_one", "_law_two"] f_law_gcd fd_law_gcd) {f_law_is_whole : Addr} {fd_law_is_whole : FuncData} (D_law_is_whole : DefAt K mg "_law_is_whole" st_law_is_whole ["_law_value"] f_law_is_whole fd_law_is_whole) {f_law_is_ratio : Addr} {fd_law_is_ratio : FuncData} (D_law_is_ratio : DefAt K mg "_law_is_ratio" st_law_is_ratio ["_law_value"] f_law_is_ratio fd_law_is_ratio) : FnOk P w K mg base CX0 2 f_law_is_ratio fd_law_is_ratio ["_law_value"] (spIsRat K) := by
  have OK_law_gcd : FnOk P w K mg base CX0 1 f_law_gcd fd_law_gcd ["_law_one", "_law_two"] spGcdL := ok_law_gcd B  D_law_gcd
  have OK_law_is_whole : FnOk P w K mg base CX0 1 f_law_is_whole fd_law_is_whole ["_law_value"] spWhole := ok_law_is_whole B  D_law_is_whole
  refine D_law_is_ratio.F.ok sc_law_is_ratio (fun vs H Q E h => ?_) (fun cdv A outer s H vs Q E hr h => ?_)
  · obtain ⟨t, a, b, rfl, _⟩ := h; rfl
  · have hu := hu_of hr
    refine ⟨_, (pss_cons (ps_if (PW.pt (pw_or (pt_not (pt_val (pe_callB call_isi (by rfl) B.isinstance_ (by decide +kernel) (pa_cons (pv 0) (pa_cons (pe_bltn (v := .ty "tuple") (by rfl) B.tuple_ PyProof.Rows.Boot.«tuple» rfl) pa_nil))))) (pw_or1 (pt_cmpR op_ne (pe_callB call_len_seq (by rfl) B.len_ (by decide +kernel) (pa_cons (pv 0) pa_nil)) pe_int (nomark _))))) (pss_one (ps_ret pe_bl)) pss_nil)
    (pss_cons (ps_if (PW.pt (pw_or (pt_not (pt_val (pe_call OK_law_is_whole (hr.mono (by decide)) rfl D_law_is_whole.m D_law_is_whole.F.kp D_law_is_whole.b .nil pass0 (pa_cons (pe_ix ix_tup (pv 0) pe_int (fun _ _ => rfl)) pa_nil)))) (pw_or (pt_not (pt_val (pe_call OK_law_is_whole (hr.mono (by decide)) rfl D_law_is_whole.m D_law_is_whole.F.kp D_law_is_whole.b .nil pass0 (pa_cons (pe_ix ix_tup (pv 0) pe_int (fun _ _ => rfl)) pa_nil)))) (pw_or1 (pt_cmpR op_le (pe_ix ix_tup (pv 0) pe_int (fun _ _ => rfl)) pe_int (nomark _)))))) (pss_one (ps_ret pe_bl)) pss_nil)
    (pss_one (ps_ret (pe_cmpR op_eq (pe_call OK_law_gcd (hr.mono (by decide)) rfl D_law_gcd.m D_law_gcd.F.kp D_law_gcd.b .nil pass0 (pa_cons (pe_ix ix_tup (pv 0) pe_int (fun _ _ => rfl)) (pa_cons (pe_ix ix_tup (pv 0) pe_int (fun _ _ => rfl)) pa_nil))) pe_int (nomark _)))))), ?_⟩
    obtain ⟨t, a, b, rfl, ht, ha, hb, h0, hg, q⟩ := h
    refine ⟨_, rfl, _, _, _, _, _, rfl, ClsV.ty _, TyX.base (.tup ht), rfl, true, rfl, ?_⟩
    refine iteF ?_
    refine ⟨_, rfl, t, _, rfl, .inr (SqT.of ht), rfl, _, rfl, ?_⟩
    refine iteF ?_
    refine ⟨_, rfl, t, _, _, _, rfl, rfl, SqT.of ht, rfl, _, rfl, _, rfl, ?_⟩
    refine iteF ?_
    refine ⟨_, rfl, t, _, _, _, rfl, rfl, SqT.of ht, rfl, _, rfl, _, rfl, ?_⟩
    refine iteF ?_
    refine ⟨_, rfl, t, _, _, _, rfl, rfl, SqT.of ht, rfl, _, _, rfl, rfl, _, rfl, ?_⟩
    refine ite2 (fun hneg => absurd (of_decide_eq_true hneg) (by omega)) (fun _ => ?_)
    refine ⟨_, rfl, t, _, _, _, rfl, rfl, SqT.of ht, rfl, _, rfl, t, _, _, _, rfl, rfl, SqT.of ht, rfl, a, b, rfl, ha, hb, rfl, ?_⟩
    rw [hg]; exact q
abbrev st_law_digits_end : Stmt := top 22
theorem sc_law_digits_end : FnScope ["_law_text", "_law_at", "_law_lap"] ["_law_text", "_law_at"] (defScope st_law_digits_end) := ⟨rfl, rfl, rfl, by decide +kernel, rfl, by decide +kernel, by decide +kernel⟩
theorem ok_law_digits_end (B : Blt mg)  {f_law_digits_end : Addr} {fd_law_digits_end : FuncData} (D_law_digits_end : DefAt K mg "_law_digits_end" st_law_digits_end ["_law_text", "_law_at"] f_law_digits_end fd_law_digits_end) : FnOk P w K mg base CX0 1 f_law_digits_end fd_law_digits_end ["_law_text", "_law_at"] spEndL := by
  refine D_law_digits_end.F.ok sc_law_digits_end (fun vs H Q E h => ?_) (fun cdv A outer s H vs Q E hr h => ?_)
  · obtain ⟨l, i, rfl, _⟩ := h; rfl
  · have hu := hu_of hr
    refine ⟨_, (pss_cons (ps_for PassesOwn.never rfl (pi_range1 rfl B.range_ (pa_cons (pe_op op_add (pe_callB call_len_str (by rfl) B.len_ (by decide +kernel) (pa_cons (pv 0) pa_nil)) pe_int) pa_nil)) (pg_name (i := 2) sc_law_digits_end.nd rfl (Or.inl rfl))
      (pss_cons (ps_if (pt_cmpR op_notIn_seq (pe_slice sl_str (pv 0) (po_some (pv 1)) (po_some (pe_op op_add (pv 1) pe_int))) (pe_callTy (call_tuple_text hr.hd) (by rfl) B.tuple_ (by decide +kernel) (pa_cons pe_str pa_nil)) rfl) (pss_one ps_break) pss_nil)
    (pss_one (ps_set (i := 1) sc_law_digits_end.nd rfl (Or.inl rfl) (pe_op op_add (pv 1) pe_int)))))
    (pss_one (ps_ret (pv 1)))), ?_⟩
    obtain ⟨l, i, rfl, hi, hl, q⟩ := h
    have hls : (S l).length ≤ sizeLine := by rw [S_len]; exact Nat.le_trans hl (by decide)
    have hde := dEnd_le hi
    refine ⟨_, rfl, _, rfl, hls, _, _, rfl, rfl, _, rfl, (by rw [S_len]; omega), (by rw [S_len]; omega), for_range (lo := 0) (n := ((((S l).length : Nat) : Int) + 1).toNat) (fun k σ H' => ∃ v : Option V, σ = [some (.str (S l)), some (.int ((i + k : Nat) : Int)), v] ∧ Same H H' ∧ i + k ≤ dEnd l i) ⟨none, rfl, Same.refl _, dEnd_ge _ _⟩ ?_ ?_⟩
    · rintro k σ H' hk ⟨v, rfl, s1, hke⟩
      have ecut : cutS (S l) (some ((i + k : Nat) : Int)) (some (((i + k : Nat) : Int) + 1)) = S (rowAt l (i + k) (i + k + 1)) := cut_mid l (i + k) (i + k + 1)
      refine ⟨_, rfl, _, rfl, _, rfl, _, rfl, _, _, rfl, rfl, _, rfl, _, rfl, hls, [48, 49, 50, 51, 52, 53, 54, 55, 56, 57], by rw [digitsS], by decide, fun p hp => ?_⟩
      have s2 : Same H (upd H' p (.tup (([48, 49, 50, 51, 52, 53, 54, 55, 56, 57] : List Nat).map fun c => V.str (S [c])))) := s1.trans (AL.Same.new hp)
      refine ⟨p, _, rfl, .inr (SqT.of upd_same), rfl, rfl, _, rfl, ?_⟩
      rw [ecut, in_dig, row_one]
      have stop : i + k = dEnd l i → tRet (tVar 1) { nx := fun x H' => Q V.non H', rt := Q } [some (.str (S l)), some (.int ((i + k : Nat) : Int)), some (.int (0 + (k : Int)))] (upd H' p (.tup (([48, 49, 50, 51, 52, 53, 54, 55, 56, 57] : List Nat).map fun c => V.str (S [c])))) := fun e => by
        refine ⟨_, rfl, ?_⟩
        have z := q _ s2
        rw [← e] at z; exact z
      cases hc : l[i + k]? with
      | none =>
        have := List.getElem?_eq_none_iff.mp hc
        refine iteT (stop ?_)
        omega
      | some c =>
        show if (!isD c) = true then _ else _
        cases hd : isD c with
        | false =>
          refine iteT (stop ?_)
          rcases Nat.lt_or_ge (i + k) (dEnd l i) with h | h
          · rw [dEnd_in (Nat.le_add_right _ _) h hc] at hd; cases hd
          · omega
        | true =>
          refine iteF ⟨_, rfl, _, _, rfl, rfl, some (.int (0 + (k : Int))), rfl, s2, ?_⟩
          rcases Nat.lt_or_ge (i + k) (dEnd l i) with h | h
          · omega
          · have e : i + k = dEnd l i := by omega
            rw [e] at hc
            rw [dEnd_out hc] at hd; cases hd
    · rintro σ H' ⟨v, rfl, s1, hke⟩
      rw [S_len] at hke
      omega
abbrev stlowest : Stmt := top 6
theorem sclowest : FnScope ["top", "bottom", "shared"] ["top", "bottom"] (defScope stlowest) := ⟨rfl, rfl, rfl, by decide +kernel, rfl, by decide +kernel, by decide +kernel⟩
theorem oklowest (B : Blt mg) (Gg : mg "gcd" = some (.builtin "math.gcd")) {flowest : Addr} {fdlowest : FuncData} (Dlowest : DefAt K mg "lowest" stlowest ["top", "bottom"] flowest fdlowest) : FnOk P w K mg base CX0 1 flowest fdlowest ["top", "bottom"] spLow := by
  refine Dlowest.F.ok sclowest (fun vs H Q E h => ?_) (fun cdv A outer s H vs Q E hr h => ?_)
  · obtain ⟨a, b, rfl, _⟩ := h; rfl
  · have hu := hu_of hr
    refine ⟨_, (pss_cons (ps_set (i := 2) sclowest.nd rfl (Or.inl rfl) (pe_callBfun cr_gcd (by rfl) Gg (pa_cons (pv 0) (pa_cons (pv 1) pa_nil))))
    (pss_cons (ps_if (pt_cmpR op_lt (pv 1) pe_int (nomark _)) (pss_one (ps_set (i := 2) sclowest.nd rfl (Or.inl rfl) (pe_un un_neg (pv 2)))) pss_nil)
    (pss_one (ps_ret (pe_tup (pa_cons (pe_op op_fdivB (pv 0) (pv 2)) (pa_cons (pe_op op_fdivB (pv 1) (pv 2)) pa_nil))))))), ?_⟩
    obtain ⟨a, b, rfl, ha, hb, h0, q⟩ := h
    refine ⟨_, rfl, _, rfl, a, b, rfl, ?_⟩
    refine ⟨_, rfl, _, _, rfl, rfl, _, rfl, ?_⟩
    refine ite2 (fun hneg => absurd (of_decide_eq_true hneg) (by omega)) (fun _ => ?_)
    have hg : Nat.gcd a.natAbs b ≠ 0 := fun z => h0 (Nat.eq_zero_of_gcd_eq_zero_right z)
    refine ⟨_, rfl, _, rfl, _, _, rfl, rfl, ⟨by show ((Nat.gcd a.natAbs b : Nat) : Int) ≠ 0; omega, ?_⟩, _, rfl, _, rfl, _, _, rfl, rfl, ⟨by show ((Nat.gcd a.natAbs b : Nat) : Int) ≠ 0; omega, ?_⟩, (by show 2 ≤ sizeLine; decide), fun t ht => ?_⟩
    · exact Nat.lt_trans ha pow4000
    · exact Nat.lt_trans hb pow4000
    · have z := q t ht
      rw [← fdiv_nat] at z
      exact z
abbrev stdigits_end : Stmt := top 12
theorem scdigits_end : FnScope ["text", "start", "end"] ["text", "start"] (defScope stdigits_end) := ⟨rfl, rfl, rfl, by decide +kernel, rfl, by decide +kernel, by decide +kernel⟩
theorem okdigits_end (B : Blt mg) {uD : Value} (hD : mg "DIGITS" = some uD) (rD : RelV (.str "0123456789") uD) {fdigits_end : Addr} {fddigits_end : FuncData} (Ddigits_end : DefAt K mg "digits_end" stdigits_end ["text", "start"] fdigits_end fddigits_end) : FnOk P w K mg base CX0 1 fdigits_end fddigits_end ["text", "start"] spEnd := by
  refine Ddigits_end.F.ok scdigits_end (fun vs H Q E h => ?_) (fun cdv A outer s H vs Q E hr h => ?_)
  · obtain ⟨l, i, rfl, _⟩ := h; rfl
  · have hu := hu_of hr
    refine ⟨_, (pss_cons (ps_set (i := 2) scdigits_end.nd rfl (Or.inl rfl) (pv 1))
    (pss_cons (ps_while PassesOwn.never (PW.pt (pw_and (pt_cmpR op_lt (pv 2) (pe_callB call_len_str (by rfl) B.len_ (by decide +kernel) (pa_cons (pv 0) pa_nil)) (nomark _)) (pw_and1 (pt_cmpR op_in_sign (pe_ix ix_str (pv 0) (pv 2) (fun _ _ => rfl)) (pe_glob rfl hD rD) rfl)))) (pss_one (ps_aug (i := 2) scdigits_end.nd rfl (Or.inl rfl) pe_int ip_add)))
    (pss_one (ps_ret (pv 2))))), ?_⟩
    obtain ⟨l, i, rfl, hi, hl, q⟩ := h
    have hls : (S l).length ≤ sizeLine := by rw [S_len]; exact Nat.le_trans hl (by decide)
    have hde := dEnd_le hi
    refine ⟨_, rfl, fun m σ H' => H' = H ∧ ∃ e, i ≤ e ∧ e ≤ dEnd l i ∧ m = dEnd l i - e ∧ σ = [some (.str (S l)), some (.int (i : Int)), some (.int ((e : Nat) : Int))], ⟨_, rfl, i, Nat.le_refl _, dEnd_ge _ _, rfl, rfl⟩, ?_⟩
    rintro m σ H' ⟨rfl, e, h0, h1, rfl, rfl⟩
    refine ⟨_, rfl, _, rfl, _, rfl, hls, _, _, rfl, rfl, _, rfl, ?_⟩
    refine ite2 (fun hlt => ?_) (fun hge => ?_)
    · have hlt' := of_decide_eq_true hlt
      rw [S_len] at hlt'
      have hel : e < l.length := by omega
      refine ⟨_, rfl, _, rfl, _, _, _, rfl, rfl, hls, atI_nat (List.getElem?_eq_getElem hel), _, _, rfl, rfl, _, rfl, ?_⟩
      have hmem : decide (l[e] ∈ ("0123456789" : Str).cps.toList) = isD l[e] := by rw [digitsS, isD_mem]
      rw [hmem]
      refine ite2 (fun hd => ?_) (fun hd => ?_)
      · have hne : e ≠ dEnd l i := fun z => by
          have := dEnd_out (l := l) (i := i) (c := l[e]) (by rw [← z]; exact List.getElem?_eq_getElem hel)
          rw [this] at hd; cases hd
        refine ⟨fun σ' H2 => σ' = [some (.str (S l)), some (.int (i : Int)), some (.int ((e + 1 : Nat) : Int))] ∧ H2 = H', ?_, ?_⟩
        · rintro σ' H2 ⟨rfl, rfl⟩
          exact ⟨dEnd l i - (e + 1), by omega, rfl, e + 1, by omega, by omega, rfl, rfl⟩
        · exact ⟨_, rfl, _, _, rfl, rfl, rfl, rfl⟩
      · have he : e = dEnd l i := by
          rcases Nat.lt_or_ge e (dEnd l i) with h | h
          · exact absurd (dEnd_in h0 h (List.getElem?_eq_getElem hel)) hd
          · omega
        refine ⟨_, rfl, ?_⟩
        rw [← he] at q; exact q
    · have hge' : ¬ e < l.length := fun z => hge (decide_eq_true (by rw [S_len]; omega))
      have he : e = dEnd l i := by omega
      refine ⟨_, rfl, ?_⟩
      rw [← he] at q; exact q
abbrev stwrong_column : Stmt := top 11
theorem scwrong_column : FnScope ["text", "start", "end"] ["text"] (defScope stwrong_column) := ⟨rfl, rfl, rfl, by decide +kernel, rfl, by decide +kernel, by decide +kernel⟩
theorem okwrong_column (B : Blt mg) {uD : Value} (hD : mg "DIGITS" = some uD) (rD : RelV (.str "0123456789") uD) {fdigits_end : Addr} {fddigits_end : FuncData} (Ddigits_end : DefAt K mg "digits_end" stdigits_end ["text", "start"] fdigits_end fddigits_end) {fwrong_column : Addr} {fdwrong_column : FuncData} (Dwrong_column : DefAt K mg "wrong_column" stwrong_column ["text"] fwrong_column fdwrong_column) : FnOk P w K mg base CX0 2 fwrong_column fdwrong_column ["text"] spCol := by
  have OKdigits_end : FnOk P w K mg base CX0 1 fdigits_end fddigits_end ["text", "start"] spEnd := okdigits_end B hD rD Ddigits_end
  refine Dwrong_column.F.ok scwrong_column (fun vs H Q E h => ?_) (fun cdv A outer s H vs Q E hr h => ?_)
  · obtain ⟨l, rfl, _⟩ := h; rfl
  · have hu := hu_of hr
    refine ⟨_, (Evl.pss_cut (ps_set (i := 1) scwrong_column.nd rfl (Or.inl rfl) (pe_ifExp (pt_val (pe_m1 PySem.F.slot_str_startswith PySem.F.type_str_startswith mt_startswith (pv 0) pe_str)) pe_int pe_int))
    (pss_cons (ps_set (i := 2) scwrong_column.nd rfl (Or.inl rfl) (pe_call OKdigits_end (hr.mono (by decide)) rfl Ddigits_end.m Ddigits_end.F.kp Ddigits_end.b .nil pass0 (pa_cons (pv 0) (pa_cons (pv 1) pa_nil))))
    (Evl.pss_cut (ps_if (PW.pt (pw_and (pt_cmpR op_gt (pv 2) (pv 1) (nomark _)) (pw_and (pt_cmpR op_lt (pv 2) (pe_callB call_len_str (by rfl) B.len_ (by decide +kernel) (pa_cons (pv 0) pa_nil)) (nomark _)) (pw_and1 (pt_cmpR op_eq (pe_ix ix_str (pv 0) (pv 2) (fun _ _ => rfl)) pe_str (nomark _)))))) (pss_cons (ps_set (i := 1) scwrong_column.nd rfl (Or.inl rfl) (pe_op op_add (pv 2) pe_int))
    (pss_one (ps_set (i := 2) scwrong_column.nd rfl (Or.inl rfl) (pe_call OKdigits_end (hr.mono (by decide)) rfl Ddigits_end.m Ddigits_end.F.kp Ddigits_end.b .nil pass0 (pa_cons (pv 0) (pa_cons (pv 1) pa_nil)))))) pss_nil)
    (pss_cons (ps_if (PW.pt (pw_or (pt_cmpR op_eq (pv 2) (pv 1) (nomark _)) (pw_or1 (pt_cmpR op_lt (pv 2) (pe_callB call_len_str (by rfl) B.len_ (by decide +kernel) (pa_cons (pv 0) pa_nil)) (nomark _))))) (pss_one (ps_ret (pe_op op_add (pv 2) pe_int))) pss_nil)
    (pss_one (ps_ret pe_int)))))), ?_⟩
    obtain ⟨l, rfl, hl, q⟩ := h
    have hls : (S l).length ≤ sizeLine := by rw [S_len]; exact Nat.le_trans hl (by decide)
    refine ⟨fun σ' H' => H' = H ∧ σ' = [some (.str (S l)), some (.int ((fst0 l : Nat) : Int)), none], ?_, ?_⟩
    · refine ⟨_, rfl, ⟨_, rfl⟩, _, _, rfl, rfl, _, rfl, ?_⟩
      rw [starts_minus]
      refine ite2 (fun hn => ?_) (fun hn => ?_)
      · refine ⟨rfl, ?_⟩
        unfold fst0; rw [if_pos hn]; rfl
      · refine ⟨rfl, ?_⟩
        unfold fst0; rw [if_neg hn]; rfl
    rintro σ1 H1 ⟨rfl, rfl⟩
    refine ⟨_, rfl, _, rfl, l, fst0 l, rfl, fst0_le l, hl, ?_⟩
    have a1 := fst_mid l
    have a2 := mid0_le l
    have pre : ∀ {b : Bool}, slash0 l = b → (decide (fst0 l < mid0 l) && b) = true → fst0 l < mid0 l ∧ b = true := fun _ z => by simpa using z
    refine ⟨fun σ' H' => H' = H1 ∧ ((fst0 l < mid0 l ∧ slash0 l = true ∧ σ' = [some (.str (S l)), some (.int ((mid0 l + 1 : Nat) : Int)), some (.int ((end0 l : Nat) : Int))]) ∨ ((fst0 l = mid0 l ∨ slash0 l = false) ∧ σ' = [some (.str (S l)), some (.int ((fst0 l : Nat) : Int)), some (.int ((mid0 l : Nat) : Int))])), ?_, ?_⟩
    · refine ⟨_, rfl, _, rfl, _, _, rfl, rfl, _, rfl, ?_⟩
      refine ite2 (fun h1 => ?_) (fun h1 => ?_)
      · have h1' := of_decide_eq_true h1
        refine ⟨_, rfl, _, rfl, _, rfl, hls, _, _, rfl, rfl, _, rfl, ?_⟩
        refine ite2 (fun h2 => ?_) (fun h2 => ?_)
        · have h2' := of_decide_eq_true h2
          rw [S_len] at h2'
          have hml : mid0 l < l.length := by show dEnd l (fst0 l) < l.length; omega
          refine ⟨_, rfl, _, rfl, _, _, _, rfl, rfl, hls, atI_nat (List.getElem?_eq_getElem hml), rfl, _, rfl, ?_⟩
          have hs : decide (V.str ⟨#[l[mid0 l]]⟩ = V.str "/") = slash0 l := by
            unfold slash0
            rw [slashS, List.getElem?_eq_getElem hml]
            by_cases hc : l[mid0 l] = 47
            · rw [hc, decide_eq_true rfl, decide_eq_true rfl]
            · rw [decide_eq_false (fun z => hc (Option.some.inj z)), decide_eq_false (fun z => hc (by injection z with z; injection z with z; simpa using z))]
          refine ite2 (fun h3 => ?_) (fun h3 => ?_)
          · have h3' : slash0 l = true := hs ▸ h3
            refine ⟨_, rfl, _, _, rfl, rfl, _, rfl, _, rfl, l, mid0 l + 1, rfl, hml, hl, rfl, .inl ⟨?_, h3', rfl⟩⟩
            show fst0 l < dEnd l (fst0 l); omega
          · exact ⟨rfl, .inr ⟨.inr (Bool.eq_false_iff.mpr fun z => h3 (hs.trans z)), rfl⟩⟩
        · refine iteF ⟨rfl, .inr ⟨.inr (Bool.eq_false_iff.mpr fun z => h2 (decide_eq_true ?_)), rfl⟩⟩
          have := slash_lt z
          rw [S_len]
          show ((dEnd l (fst0 l) : Nat) : Int) < _
          have : dEnd l (fst0 l) < l.length := this
          omega
      · refine iteF ⟨rfl, .inr ⟨.inl ?_, rfl⟩⟩
        have : ¬ fst0 l < dEnd l (fst0 l) := fun z => h1 (decide_eq_true (by omega))
        have : mid0 l = dEnd l (fst0 l) := rfl
        omega
    rintro σ2 H2 ⟨rfl, hh⟩
    rcases hh with ⟨c1, c2, rfl⟩ | ⟨c1, rfl⟩
    · have a3 := end0_le c2
      have a4 : mid0 l + 1 ≤ end0 l := dEnd_ge _ _
      have hw : wcol l = if end0 l = mid0 l + 1 ∨ end0 l < l.length then end0 l + 1 else 0 := by unfold wcol; rw [if_neg (by omega), if_pos c2]
      refine ⟨_, rfl, _, rfl, rfl, _, rfl, ?_⟩
      refine ite2 (fun h1 => ?_) (fun h1 => ?_)
      · refine ⟨_, rfl, _, _, rfl, rfl, ?_⟩
        rw [hw, if_pos (.inl (vi_eq h1))] at q
        exact q
      · refine ⟨_, rfl, _, rfl, _, rfl, hls, _, _, rfl, rfl, _, rfl, ?_⟩
        rw [S_len]
        refine ite2 (fun h2 => ?_) (fun h2 => ?_)
        · have h2' := of_decide_eq_true h2
          refine ⟨_, rfl, _, _, rfl, rfl, ?_⟩
          rw [hw, if_pos (.inr (by omega))] at q
          exact q
        · have h2' : ¬ end0 l < l.length := fun z => h2 (decide_eq_true (by omega))
          rw [hw, if_neg (fun z => z.elim (vi_ne h1) h2')] at q
          exact q
    · have hw : wcol l = if mid0 l = fst0 l ∨ mid0 l < l.length then mid0 l + 1 else 0 := by
        unfold wcol
        by_cases hm : mid0 l = fst0 l
        · rw [if_pos hm, if_pos (.inl hm), hm]
        · rcases c1 with c1 | c1
          · exact absurd c1.symm hm
          · rw [if_neg hm, if_neg (by rw [c1]; decide)]
            by_cases hl2 : mid0 l < l.length
            · rw [if_pos hl2, if_pos (.inr hl2)]
            · rw [if_neg hl2, if_neg (fun z => z.elim hm hl2)]
      refine ⟨_, rfl, _, rfl, rfl, _, rfl, ?_⟩
      refine ite2 (fun h1 => ?_) (fun h1 => ?_)
      · refine ⟨_, rfl, _, _, rfl, rfl, ?_⟩
        rw [hw, if_pos (.inl (vi_eq h1))] at q
        exact q
      · refine ⟨_, rfl, _, rfl, _, rfl, hls, _, _, rfl, rfl, _, rfl, ?_⟩
        rw [S_len]
        refine ite2 (fun h2 => ?_) (fun h2 => ?_)
        · have h2' := of_decide_eq_true h2
          refine ⟨_, rfl, _, _, rfl, rfl, ?_⟩
          rw [hw, if_pos (.inr (by omega))] at q
          exact q
        · have h2' : ¬ mid0 l < l.length := fun z => h2 (decide_eq_true (by omega))
          rw [hw, if_neg (fun z => z.elim (vi_ne h1) h2')] at q
          exact q
end
end AL
set_option Elab.async false
set_option maxRecDepth 100000
set_option exponentiation.threshold 70000
set_option maxHeartbeats 1000000
namespace AL
open PySem L2

/-- ratio_of(x) -/
def spRatio (K : PySem.W.Frag) (BT TL : Addr) : Sp := fun vs H Q E => ∃ x, vs = [x] ∧
  ((∃ l, x = .str (S l) ∧ l.length ≤ 20000 ∧
    (∀ c, res l = .text c → ∀ d H1, H1 d = none → Same H H1 → E (.ref BT) (some d) (upd H1 d (.xd [("column", .int (c : Int)), ("line", .int 1)]))) ∧
    (∀ n, res l = .large n → ∀ d H1, H1 d = none → Same H H1 → E (.ref TL) (some d) (upd H1 d (.xd [("limit", .int 4000), ("number", .int (n : Int)), ("what", .str "digits")]))) ∧
    (∀ p r, res l = .ratio p r → ∀ t H1, H1 t = none → Same H H1 → Q (.ref t) (upd H1 t (.tup [.int p, .int r])))) ∨
   (∃ u, TyX K H x u ∧ PySem.W.kitOne K u (.type "str") = some false ∧ ∀ d H1, H1 d = none → Same H H1 → E (.ref BT) (some d) (upd H1 d (.xd [("column", .int 0), ("line", .int 0)]))))
theorem one4 : 1 < N4 := by unfold N4; decide +kernel
theorem none_of_same {H H' : Hp} {a : Addr} (s : Same H H') (h : H' a = none) : H a = none := by
  cases e : H a with
  | none => rfl
  | some o => rw [s _ _ e] at h; cases h
theorem Same.updn {H H' : Hp} {a : Addr} {o : HO} (s : Same H H') (h : H a = none) : Same H (upd H' a o) := fun b u e => by
  rw [upd_ne (fun z => by rw [z, h] at e; cases e)]; exact s _ _ e
/-- what a text is told to be -/
def resD : Res → PyData
  | .text c => .tuple [.str "text", .int (c : Int)]
  | .large n => .tuple [.str "large", .int (n : Int)]
  | .ratio p r => .tuple [.str "ratio", .tuple [.int p, .int r]]
/-- _law_due(text) -/
def spDue (K : PySem.W.Frag) : Sp := fun vs H Q _ => ∃ (l : List Nat), vs = [.str (S l)] ∧ l.length ≤ 20000 ∧ ∀ t H', Same H H' → Dp K H' (.ref t) (resD (res l)) → Q (.ref t) H'
section
variable {P : Program} {w : World} {K : PySem.W.Frag} {mg : Str → Option Value} {base : Heap}
abbrev si_BadText : Stmt := inClass (top 3) 0
theorem sci_BadText : FnScope ["self", "line", "column"] ["self", "line", "column"] (defScope si_BadText) := ⟨rfl, rfl, rfl, by decide +kernel, rfl, by decide +kernel, by decide +kernel⟩
theorem oki_BadText {C fI : Addr} {fd : FuncData} (T : ErrT K mg "BadText" C ["line", "column"]) (I : IniT K "BadText.__init__" si_BadText ["self", "line", "column"] C fI fd) : FnOk P w K mg base CX0 1 fI fd ["self", "line", "column"] (spIni C ["line", "column"]) := by
  refine I.F.ok sci_BadText (fun vs H Q E h => ?_) (fun cdv A outer s H vs Q E hr h => ?_)
  · obtain ⟨a, ys, rfl, hl, _⟩ := h; exact congrArg Nat.succ hl
  · obtain ⟨a, ys, rfl, hl, ha, q⟩ := h
    match ys, hl with
    | [y1, y2], _ =>
    refine ⟨_, (pss_cons (ps_ost (pv 0) (pv 1)) (pss_one (ps_ost (pv 0) (pv 2)))), ?_⟩
    refine ⟨_, rfl, _, rfl, a, C, rfl, T.oex, T.no _ (by simp), .inl ⟨ha, fun dx hd hne => ?_⟩⟩
    have e0 : upd (upd H dx (exd dx [("line", y1)])) a (exo a C (some dx)) a = some (exo a C (some dx)) := upd_same
    have d0 : upd (upd H dx (exd dx [("line", y1)])) a (exo a C (some dx)) dx = some (exd dx [("line", y1)]) := Eq.trans (upd_ne hne) upd_same
    refine ⟨_, rfl, _, rfl, a, C, rfl, T.oex, T.no _ (by simp), .inr ⟨dx, _, e0, d0, (by show 1 ≤ 900; decide), ?_⟩⟩
    exact q dx _ hd hne (Eq.trans (upd_ne hne.symm) e0) upd_same fun b h1 h2 => Eq.trans (upd_ne h2) (Eq.trans (upd_ne h1) (upd_ne h2))
abbrev si_TooLarge : Stmt := inClass (top 4) 0
theorem sci_TooLarge : FnScope ["self", "what", "number", "limit"] ["self", "what", "number", "limit"] (defScope si_TooLarge) := ⟨rfl, rfl, rfl, by decide +kernel, rfl, by decide +kernel, by decide +kernel⟩
theorem oki_TooLarge {C fI : Addr} {fd : FuncData} (T : ErrT K mg "TooLarge" C ["what", "number", "limit"]) (I : IniT K "TooLarge.__init__" si_TooLarge ["self", "what", "number", "limit"] C fI fd) : FnOk P w K mg base CX0 1 fI fd ["self", "what", "number", "limit"] (spIni C ["what", "number", "limit"]) := by
  refine I.F.ok sci_TooLarge (fun vs H Q E h => ?_) (fun cdv A outer s H vs Q E hr h => ?_)
  · obtain ⟨a, ys, rfl, hl, _⟩ := h; exact congrArg Nat.succ hl
  · obtain ⟨a, ys, rfl, hl, ha, q⟩ := h
    match ys, hl with
    | [y1, y2, y3], _ =>
    refine ⟨_, (pss_cons (ps_ost (pv 0) (pv 1)) (pss_cons (ps_ost (pv 0) (pv 2)) (pss_one (ps_ost (pv 0) (pv 3))))), ?_⟩
    refine ⟨_, rfl, _, rfl, a, C, rfl, T.oex, T.no _ (by simp), .inl ⟨ha, fun dx hd hne => ?_⟩⟩
    have e0 : upd (upd H dx (exd dx [("what", y1)])) a (exo a C (some dx)) a = some (exo a C (some dx)) := upd_same
    have d0 : upd (upd H dx (exd dx [("what", y1)])) a (exo a C (some dx)) dx = some (exd dx [("what", y1)]) := Eq.trans (upd_ne hne) upd_same
    refine ⟨_, rfl, _, rfl, a, C, rfl, T.oex, T.no _ (by simp), .inr ⟨dx, _, e0, d0, (by show 1 ≤ 900; decide), ?_⟩⟩
    refine ⟨_, rfl, _, rfl, a, C, rfl, T.oex, T.no _ (by simp), .inr ⟨dx, _, Eq.trans (upd_ne hne.symm) e0, upd_same, (by show 2 ≤ 900; decide), ?_⟩⟩
    exact q dx _ hd hne (Eq.trans (upd_ne hne.symm) (Eq.trans (upd_ne hne.symm) e0)) upd_same fun b h1 h2 => Eq.trans (upd_ne h2) (Eq.trans (upd_ne h2) (Eq.trans (upd_ne h1) (upd_ne h2)))

/-- the two errors, as they stand behind the top -/
structure Er (K : PySem.W.Frag) (mg : Str → Option Value) (BT TL CS fB fT : Addr) (fdB fdT : FuncData) : Prop where
  eB : ErrT K mg "BadText" BT ["line", "column"]
  iB : IniT K "BadText.__init__" si_BadText ["self", "line", "column"] BT fB fdB
  eT : ErrT K mg "TooLarge" TL ["what", "number", "limit"]
  iT : IniT K "TooLarge.__init__" si_TooLarge ["self", "what", "number", "limit"] TL fT fdT
  mS : mg "ScaleError" = some (.ref CS)
  nV : mg "ValueError" = none
  kBS : PySem.W.kitOne K (.ref BT) (.ref CS) = some true
  kBV : PySem.W.kitOne K (.ref BT) (.type "ValueError") = some true
  kBT : PySem.W.kitOne K (.ref BT) (.ref TL) = some false
  xBB : PySem.W.exmOne K (.ref BT) (.ref BT) = some true
  xTB : PySem.W.exmOne K (.ref TL) (.ref BT) = some false
  xTT : PySem.W.exmOne K (.ref TL) (.ref TL) = some true
  gcd : mg "gcd" = some (.builtin "math.gcd")
  dig : ∃ u, mg "DIGITS" = some u ∧ RelV (.str "0123456789") u
  most : ∃ u, mg "MOST_DIGITS" = some u ∧ RelV (.int 4000) u
  nodig : digB K = true

abbrev stratio_of : Stmt := top 10
theorem scratio_of : FnScope ["text", "column", "top", "slash", "bottom", "digits"] ["text"] (defScope stratio_of) := ⟨rfl, rfl, rfl, by decide +kernel, rfl, by decide +kernel, by decide +kernel⟩
theorem okratio_of (B : Blt mg) {BT TL CS fB fT : Addr} {fdB fdT : FuncData} (Es : Er K mg BT TL CS fB fT fdB fdT) {flowest : Addr} {fdlowest : FuncData} (Dlowest : DefAt K mg "lowest" stlowest ["top", "bottom"] flowest fdlowest) {fdigits_end : Addr} {fddigits_end : FuncData} (Ddigits_end : DefAt K mg "digits_end" stdigits_end ["text", "start"] fdigits_end fddigits_end) {fwrong_column : Addr} {fdwrong_column : FuncData} (Dwrong_column : DefAt K mg "wrong_column" stwrong_column ["text"] fwrong_column fdwrong_column) {fratio_of : Addr} {fdratio_of : FuncData} (Dratio_of : DefAt K mg "ratio_of" stratio_of ["text"] fratio_of fdratio_of) : FnOk P w K mg base (L2.CX P w) 3 fratio_of fdratio_of ["text"] (spRatio K BT TL) := by
  obtain ⟨uD, hD, rD⟩ := Es.dig
  obtain ⟨uM, hM, rM⟩ := Es.most
  have OKlowest : FnOk P w K mg base CX0 1 flowest fdlowest ["top", "bottom"] spLow := oklowest B Es.gcd Dlowest
  have OKwrong_column : FnOk P w K mg base CX0 2 fwrong_column fdwrong_column ["text"] spCol := okwrong_column B hD rD Ddigits_end Dwrong_column
  refine Dratio_of.F.okX scratio_of (fun vs H Q E h => ?_) (fun cdv A outer s H vs Q E hr h => ?_)
  · obtain ⟨x, rfl, _⟩ := h; rfl
  · have hu := hu_of hr
    refine ⟨_, (pss_cons (ps_if (pt_not (pt_val (pe_callB call_isi (by rfl) B.isinstance_ (by decide +kernel) (pa_cons (pv 0) (pa_cons (pe_bltn (v := .ty "str") (by rfl) B.str_ PyProof.Rows.Boot.«str» rfl) pa_nil))))) (pss_one (ps_raiseC rfl (takes_of rfl rfl rfl rfl) Es.eB Es.iB (oki_BadText Es.eB Es.iB) (hr.mono (by decide)) (by decide) rfl (pa_cons pe_int (pa_cons pe_int pa_nil)))) pss_nil)
    (pss_cons (ps_set (i := 1) scratio_of.nd rfl (Or.inl rfl) (pe_call OKwrong_column (hr.mono (by decide)) rfl Dwrong_column.m Dwrong_column.F.kp Dwrong_column.b .nil pass0 (pa_cons (pv 0) pa_nil)))
    (pss_cons (ps_if (pt_cmpR op_gt (pv 1) pe_int (nomark _)) (pss_one (ps_raiseC rfl (takes_of rfl rfl rfl rfl) Es.eB Es.iB (oki_BadText Es.eB Es.iB) (hr.mono (by decide)) (by decide) rfl (pa_cons pe_int (pa_cons (pv 1) pa_nil)))) pss_nil)
    (pss_cons (ps_asg (pe_partition (pv 0) pe_str) (pg_tup rfl (pgs_cons (pg_name (i := 2) scratio_of.nd rfl (Or.inl rfl)) (pgs_cons (pg_name (i := 3) scratio_of.nd rfl (Or.inl rfl)) (pgs_cons (pg_name (i := 4) scratio_of.nd rfl (Or.inl rfl)) pgs_nil)))))
    (pss_cons (ps_for (passes_of rfl) rfl (pi_tup (pe_tup (pa_cons (pe_m1 PySem.F.slot_str_lstrip PySem.F.type_str_lstrip mt_lstripChars (pv 2) pe_str) (pa_cons (pv 4) pa_nil)))) (pg_name (i := 5) scratio_of.nd rfl (Or.inl rfl))
      (pss_one (ps_if (pt_cmpR op_gt (pe_callB call_len_str (by rfl) B.len_ (by decide +kernel) (pa_cons (pv 5) pa_nil)) (pe_glob rfl hM rM) (nomark _)) (pss_one (ps_raiseC rfl (takes_of rfl rfl rfl rfl) Es.eT Es.iT (oki_TooLarge Es.eT Es.iT) (hr.mono (by decide)) (by decide) rfl (pa_cons pe_str (pa_cons (pe_callB call_len_str (by rfl) B.len_ (by decide +kernel) (pa_cons (pv 5) pa_nil)) (pa_cons (pe_glob rfl hM rM) pa_nil))))) pss_nil)))
    (pss_cons (ps_if (pt_cmpR op_eq (pv 3) pe_str (nomark _)) (pss_one (ps_ret (pe_tup (pa_cons (pe_callTy (call_int_strL Es.nodig) (by rfl) B.int_ (by decide +kernel) (pa_cons (pv 2) pa_nil)) (pa_cons pe_int pa_nil))))) pss_nil)
    (pss_cons (ps_if (pt_cmpR op_eq (pe_callTy (call_int_strL Es.nodig) (by rfl) B.int_ (by decide +kernel) (pa_cons (pv 4) pa_nil)) pe_int (nomark _)) (pss_one (ps_raiseC rfl (takes_of rfl rfl rfl rfl) Es.eB Es.iB (oki_BadText Es.eB Es.iB) (hr.mono (by decide)) (by decide) rfl (pa_cons pe_int (pa_cons (pe_op op_add (pe_callB call_len_str (by rfl) B.len_ (by decide +kernel) (pa_cons (pv 2) pa_nil)) pe_int) pa_nil)))) pss_nil)
    (pss_one (ps_ret (pe_call OKlowest (hr.mono (by decide)) rfl Dlowest.m Dlowest.F.kp Dlowest.b .nil pass0 (pa_cons (pe_callTy (call_int_strL Es.nodig) (by rfl) B.int_ (by decide +kernel) (pa_cons (pv 2) pa_nil)) (pa_cons (pe_callTy (call_int_strL Es.nodig) (by rfl) B.int_ (by decide +kernel) (pa_cons (pv 4) pa_nil)) pa_nil)))))))))))), ?_⟩
    obtain ⟨x, rfl, h⟩ := h
    rcases h with ⟨l, rfl, hl, qt, ql, qr⟩ | ⟨u, tx, ku, q⟩
    · have hls : (S l).length ≤ sizeLine := by rw [S_len]; exact Nat.le_trans hl (by decide)
      refine ⟨_, rfl, _, _, _, _, _, rfl, ClsV.ty _, TyX.base (.str _), rfl, true, rfl, ?_⟩
      refine iteF ?_
      refine ⟨_, rfl, l, rfl, hl, ?_⟩
      refine ⟨_, rfl, _, _, rfl, rfl, _, rfl, ?_⟩
      refine ite2 (fun hw => ?_) (fun hw => ?_)
      · have hw' := of_decide_eq_true hw
        exact ⟨_, rfl, rfl, fun d hd => qt _ (res_bad (by omega)) d _ hd (Same.refl _)⟩
      · have hw0 : wcol l = 0 := by
          rcases Nat.eq_zero_or_pos (wcol l) with h | h
          · exact h
          · exact absurd (decide_eq_true (by omega)) hw
        obtain ⟨h1, h2⟩ := wcol0 hw0
        have er := res_ok hw0
        have ht : ∃ (sl : Str) (b : List Nat), Txt.partition (S l) "/" = (S (l.take (mid0 l)), sl, S b) ∧ ((slash0 l = true ∧ sl = "/" ∧ b = rowAt l (mid0 l + 1) (end0 l) ∧ mid0 l + 1 < end0 l ∧ b.length = end0 l - (mid0 l + 1)) ∨ (slash0 l = false ∧ sl = Str.empty ∧ b = [])) := by
          rcases h2 with ⟨e, h3, h4⟩ | ⟨e, h3⟩
          · refine ⟨"/", l.drop (mid0 l + 1), part_slash e, .inl ⟨e, rfl, bot_eq h4, h3, ?_⟩⟩
            rw [bot_eq h4, rowAt_len (end0_le e)]
          · refine ⟨Str.empty, [], ?_, .inr ⟨e, rfl, rfl⟩⟩
            rw [part_none h3, h3, List.take_length]
            rfl
        obtain ⟨sl, b, hp, hb⟩ := ht
        have hbl : b.length ≤ l.length := by
          rcases hb with ⟨e, _, _, _, h5⟩ | ⟨_, _, rfl⟩
          · have := end0_le e; omega
          · exact Nat.zero_le _
        have hm := mid0_le l
        have htl : (S (l.take (mid0 l))).length ≤ sizeLine := by rw [S_len, List.length_take]; exact Nat.le_trans (by omega : _ ≤ 20000) (by decide)
        have hrow := rowAt_len (l := l) (i := fst0 l) hm
        refine ⟨_, rfl, ⟨_, rfl⟩, _, _, rfl, rfl, (by decide +kernel), hls, fun pt hpt => ?_⟩
        have s1 := AL.Same.new (o := .tup [.str (Txt.partition (S l) "/").1, .str (Txt.partition (S l) "/").2.1, .str (Txt.partition (S l) "/").2.2]) hpt
        refine ⟨pt, _, rfl, SqT.of upd_same, rfl, ?_⟩
        rw [hp] at s1 ⊢
        generalize hH1 : upd H pt (.tup [.str (S (l.take (mid0 l))), .str sl, .str (S b)]) = H1 at s1 ⊢
        refine ⟨_, _, rfl, _, _, rfl, _, _, rfl, rfl, ?_⟩
        refine ⟨_, rfl, ⟨_, rfl⟩, _, _, rfl, rfl, htl, ?_⟩
        rw [strip_top h1]
        refine ⟨_, rfl, (by show 2 ≤ sizeLine; decide), fun q2 hq2 => ?_⟩
        have s2 := s1.trans (AL.Same.new (o := .tup [.str (S (rowAt l (fst0 l) (mid0 l))), .str (S b)]) hq2)
        have h2t := upd_same (H := H1) (a := q2) (o := .tup [.str (S (rowAt l (fst0 l) (mid0 l))), .str (S b)])
        generalize hH2 : upd H1 q2 (.tup [.str (S (rowAt l (fst0 l) (mid0 l))), .str (S b)]) = H2 at s2 h2t ⊢
        refine ⟨q2, rfl, ⟨_, SqT.of h2t⟩, for_tup (K := K) (a := q2) (xs := [.str (S (rowAt l (fst0 l) (mid0 l))), .str (S b)]) (fun i σ H' => H' = H2 ∧ (∃ v, σ = [some (.str (S l)), some (.int ((wcol l : Nat) : Int)), some (.str (S (l.take (mid0 l)))), some (.str sl), some (.str (S b)), v]) ∧ (1 ≤ i → mid0 l - fst0 l ≤ 4000) ∧ (2 ≤ i → b.length ≤ 4000)) ⟨rfl, ⟨none, rfl⟩, fun z => by omega, fun z => by omega⟩ (fun i σ H' _ hh => by rw [hh.1]; exact SqT.of h2t) ?_ ?_⟩
        · rintro i y σ H' hy ⟨rfl, ⟨v, rfl⟩, k1, k2⟩
          match i, hy with
          | 0, hy =>
            cases hy
            have hrl : (S (rowAt l (fst0 l) (mid0 l))).length ≤ sizeLine := by rw [S_len, hrow]; exact Nat.le_trans (by omega : _ ≤ 20000) (by decide)
            refine ⟨_, rfl, _, rfl, hrl, _, _, rfl, rfl, _, rfl, ?_⟩
            rw [S_len, hrow]
            refine ite2 (fun hbig => ?_) (fun hbig => ?_)
            · have hbig' := of_decide_eq_true hbig
              rw [if_pos (by omega)] at er
              refine ⟨_, rfl, _, rfl, hrl, rfl, fun d hd => ?_⟩
              rw [S_len, hrow]
              exact ql _ er d _ hd s2
            · have hbig' : ¬ 4000 < mid0 l - fst0 l := fun z => hbig (decide_eq_true (by omega))
              exact ⟨rfl, ⟨_, rfl⟩, fun _ => by omega, fun z => by omega⟩
          | 1, hy =>
            cases hy
            have k1' := k1 (Nat.le_refl _)
            have hrl : (S b).length ≤ sizeLine := by rw [S_len]; exact Nat.le_trans (by omega : _ ≤ 20000) (by decide)
            refine ⟨_, rfl, _, rfl, hrl, _, _, rfl, rfl, _, rfl, ?_⟩
            rw [S_len]
            refine ite2 (fun hbig => ?_) (fun hbig => ?_)
            · have hbig' := of_decide_eq_true hbig
              refine ⟨_, rfl, _, rfl, hrl, rfl, fun d hd => ?_⟩
              rw [S_len]
              rcases hb with ⟨e, _, _, _, h5⟩ | ⟨_, _, rfl⟩
              · rw [if_neg (by omega), if_pos e, if_pos (by omega)] at er
                rw [h5]
                exact ql _ er d _ hd s2
              · exact absurd hbig' (by show ¬ (4000 : Int) < ((0 : Nat) : Int); decide)
            · have hbig' : ¬ 4000 < b.length := fun z => hbig (decide_eq_true (by omega))
              exact ⟨rfl, ⟨_, rfl⟩, fun _ => k1', fun z => by omega⟩
          | _ + 2, hy => cases hy
        · rintro σ H' ⟨rfl, ⟨v, rfl⟩, k1, k2⟩
          have k1' := k1 (by show 1 ≤ 2; decide)
          have k2' := k2 (by show 2 ≤ 2; decide)
          have htop := int_top h1 k1'
          rw [if_neg (by omega)] at er
          refine ⟨_, rfl, rfl, _, rfl, ?_⟩
          rcases hb with ⟨e, rfl, hbr, h3, h5⟩ | ⟨e, rfl, rfl⟩
          · refine ite2 (fun z => absurd (of_decide_eq_true z) (fun z => by injection z with z; rw [slashS, emptyS] at z; exact absurd (S_inj.mp z) (by decide))) (fun _ => ?_)
            rw [if_pos e, if_neg (by omega)] at er
            have hbi : intText? (S b) = some ((botV l : Nat) : Int) := by rw [hbr]; exact row_int (i := mid0 l + 1) h3 (slash_lt e) (by show end0 l - (mid0 l + 1) ≤ 4000; omega)
            have hbl2 : (S b).length ≤ sizeLine := by rw [S_len]; exact Nat.le_trans (by omega : _ ≤ 20000) (by decide)
            refine ⟨_, rfl, _, _, rfl, hbi, hbl2, rfl, _, rfl, ?_⟩
            refine ite2 (fun hz => ?_) (fun hz => ?_)
            · have hz' : botV l = 0 := vi_eq (j := 0) hz
              rw [if_pos hz'] at er
              refine ⟨_, rfl, _, rfl, htl, _, _, rfl, rfl, rfl, fun d hd => ?_⟩
              have := qt _ er d _ hd s2
              rw [S_len, List.length_take, Nat.min_eq_left hm]
              exact this
            · have hz' : botV l ≠ 0 := vi_ne (j := 0) hz
              rw [if_neg hz'] at er
              refine ⟨_, rfl, _, _, rfl, htop, htl, _, rfl, _, _, rfl, hbi, hbl2, sgn l (topV l), botV l, rfl, by rw [sgn_abs]; exact topV_lt k1', botV_lt e (by omega), hz', fun t ht => ?_⟩
              have := qr _ _ er t _ ht s2
              rw [sgn_abs, sgn_div]
              exact this
          · refine iteT ?_
            rw [e, if_neg (by decide)] at er
            refine ⟨_, rfl, _, _, rfl, htop, htl, (by show 2 ≤ sizeLine; decide), fun t ht => ?_⟩
            exact qr _ _ er t _ ht s2
    · refine ⟨_, rfl, _, _, _, _, _, rfl, ClsV.ty _, tx, ku, false, rfl, ?_⟩
      refine iteT ?_
      exact ⟨rfl, fun d hd => q d _ hd (Same.refl _)⟩
abbrev st_law_due : Stmt := top 23
theorem sc_law_due : FnScope ["_law_text", "_law_first", "_law_middle", "_law_end", "_law_rows", "_law_row", "_law_pair"] ["_law_text"] (defScope st_law_due) := ⟨rfl, rfl, rfl, by decide +kernel, rfl, by decide +kernel, by decide +kernel⟩
theorem ok_law_due (B : Blt mg) {BT TL CS fB fT : Addr} {fdB fdT : FuncData} (Es : Er K mg BT TL CS fB fT fdB fdT) {f_law_digits_end : Addr} {fd_law_digits_end : FuncData} (D_law_digits_end : DefAt K mg "_law_digits_end" st_law_digits_end ["_law_text", "_law_at"] f_law_digits_end fd_law_digits_end) {f_law_gcd : Addr} {fd_law_gcd : FuncData} (D_law_gcd : DefAt K mg "_law_gcd" st_law_gcd ["_law_one", "_law_two"] f_law_gcd fd_law_gcd) {f_law_q : Addr} {fd_law_q : FuncData} (D_law_q : DefAt K mg "_law_q" st_law_q ["_law_top", "_law_bottom"] f_law_q fd_law_q) {f_law_due : Addr} {fd_law_due : FuncData} (D_law_due : DefAt K mg "_law_due" st_law_due ["_law_text"] f_law_due fd_law_due) : FnOk P w K mg base CX0 3 f_law_due fd_law_due ["_law_text"] (spDue K) := by
  have OK_law_digits_end : FnOk P w K mg base CX0 1 f_law_digits_end fd_law_digits_end ["_law_text", "_law_at"] spEndL := ok_law_digits_end B  D_law_digits_end
  have OK_law_q : FnOk P w K mg base CX0 2 f_law_q fd_law_q ["_law_top", "_law_bottom"] spQ := ok_law_q B  D_law_gcd D_law_q
  refine D_law_due.F.ok sc_law_due (fun vs H Q E h => ?_) (fun cdv A outer s H vs Q E hr h => ?_)
  · obtain ⟨l, rfl, _⟩ := h; rfl
  · have hu := hu_of hr
    refine ⟨_, (pss_cons (ps_set (i := 1) sc_law_due.nd rfl (Or.inl rfl) (pe_callTy call_int1 (by rfl) B.int_ (by decide +kernel) (pa_cons (pe_cmpR op_eq (pe_slice sl_str (pv 0) po_none (po_some pe_int)) pe_str (nomark _)) pa_nil)))
    (pss_cons (ps_set (i := 2) sc_law_due.nd rfl (Or.inl rfl) (pe_call OK_law_digits_end (hr.mono (by decide)) rfl D_law_digits_end.m D_law_digits_end.F.kp D_law_digits_end.b .nil pass0 (pa_cons (pv 0) (pa_cons (pv 1) pa_nil))))
    (pss_cons (ps_if (pt_cmpR op_eq (pv 2) (pv 1) (nomark _)) (pss_one (ps_ret (pe_tup (pa_cons pe_str (pa_cons (pe_op op_add (pv 1) pe_int) pa_nil))))) pss_nil)
    (pss_cons (ps_par (i := 3) (j := 4) (by rfl) sc_law_due.nd rfl rfl (by decide) rfl rfl (pa_cons (pv 2) (pa_cons (pe_lst (pa_cons (pe_slice sl_str (pv 0) (po_some (pv 1)) (po_some (pv 2))) pa_nil)) pa_nil)) (by rfl))
    (Evl.pss_cut (ps_if (pt_cmpR op_eq (pe_slice sl_str (pv 0) (po_some (pv 2)) (po_some (pe_op op_add (pv 2) pe_int))) pe_str (nomark _)) (pss_cons (ps_set (i := 3) sc_law_due.nd rfl (Or.inl rfl) (pe_call OK_law_digits_end (hr.mono (by decide)) rfl D_law_digits_end.m D_law_digits_end.F.kp D_law_digits_end.b .nil pass0 (pa_cons (pv 0) (pa_cons (pe_op op_add (pv 2) pe_int) pa_nil))))
    (pss_cons (ps_if (pt_cmpR op_eq (pv 3) (pe_op op_add (pv 2) pe_int) (nomark _)) (pss_one (ps_ret (pe_tup (pa_cons pe_str (pa_cons (pe_op op_add (pv 3) pe_int) pa_nil))))) pss_nil)
    (pss_one (ps_expr (pe_bm PySem.F.plainAttrs_list PySem.F.slot_list_append PySem.F.type_list_append mt_append (pv 4) (pa_cons (pe_slice sl_str (pv 0) (po_some (pe_op op_add (pv 2) pe_int)) (po_some (pv 3))) pa_nil)))))) pss_nil)
    (pss_cons (ps_if (pt_cmpR op_lt (pv 3) (pe_callB call_len_str (by rfl) B.len_ (by decide +kernel) (pa_cons (pv 0) pa_nil)) (nomark _)) (pss_one (ps_ret (pe_tup (pa_cons pe_str (pa_cons (pe_op op_add (pv 3) pe_int) pa_nil))))) pss_nil)
    (pss_cons (ps_for PassesOwn.never rfl (pi_list (pv 4)) (pg_name (i := 5) sc_law_due.nd rfl (Or.inl rfl))
      (pss_one (ps_if (pt_cmpR op_gt (pe_callB call_len_str (by rfl) B.len_ (by decide +kernel) (pa_cons (pv 5) pa_nil)) pe_int (nomark _)) (pss_one (ps_ret (pe_tup (pa_cons pe_str (pa_cons (pe_callB call_len_str (by rfl) B.len_ (by decide +kernel) (pa_cons (pv 5) pa_nil)) pa_nil))))) pss_nil)))
    (pss_cons (ps_if (PW.pt (pw_and (pt_cmpR op_eq (pe_callB call_len_seq (by rfl) B.len_ (by decide +kernel) (pa_cons (pv 4) pa_nil)) pe_int (nomark _)) (pw_and1 (pt_cmpR op_eq (pe_callTy (call_int_strL Es.nodig) (by rfl) B.int_ (by decide +kernel) (pa_cons (pe_ix ix_list (pv 4) pe_int (fun _ _ => rfl)) pa_nil)) pe_int (nomark _))))) (pss_one (ps_ret (pe_tup (pa_cons pe_str (pa_cons (pe_op op_add (pv 2) pe_int) pa_nil))))) pss_nil)
    (pss_cons (ps_set (i := 6) sc_law_due.nd rfl (Or.inl rfl) (pe_call OK_law_q (hr.mono (by decide)) rfl D_law_q.m D_law_q.F.kp D_law_q.b .nil pass0 (pa_cons (pe_callTy (call_int_strL Es.nodig) (by rfl) B.int_ (by decide +kernel) (pa_cons (pe_ix ix_list (pv 4) pe_int (fun _ _ => rfl)) pa_nil)) (pa_cons (pe_ifExp (pt_cmpR op_eq (pe_callB call_len_seq (by rfl) B.len_ (by decide +kernel) (pa_cons (pv 4) pa_nil)) pe_int (nomark _)) (pe_callTy (call_int_strL Es.nodig) (by rfl) B.int_ (by decide +kernel) (pa_cons (pe_ix ix_list (pv 4) pe_int (fun _ _ => rfl)) pa_nil)) pe_int) pa_nil))))
    (pss_one (ps_ret (pe_tup (pa_cons pe_str (pa_cons (pe_ifExp (pt_cmpR op_eq (pv 1) pe_int (nomark _)) (pe_tup (pa_cons (pe_un un_neg (pe_ix ix_tup (pv 6) pe_int (fun _ _ => rfl))) (pa_cons (pe_ix ix_tup (pv 6) pe_int (fun _ _ => rfl)) pa_nil))) (pv 6)) pa_nil)))))))))))))), ?_⟩
    obtain ⟨l, rfl, hl, q⟩ := h
    have hls : (S l).length ≤ sizeLine := by rw [S_len]; exact Nat.le_trans hl (by decide)
    have hf := fst0_le l
    have hm := mid0_le l
    have hfm := fst_mid l
    have efst : (if neg l = true then (1 : Int) else 0) = ((fst0 l : Nat) : Int) := by unfold fst0; split <;> rfl
    have ecut : decide (V.str (cutS (S l) none (some 1)) = V.str "-") = neg l := by
      rw [show cutS (S l) none (some 1) = S (l.take 1) from cut_to l 1, minusS]
      unfold neg
      cases l with
      | nil => rfl
      | cons c l =>
        by_cases hc : c = 45
        · subst hc; simp
        · rw [decide_eq_false (fun z => hc (by injection z with z; have := S_inj.mp z; simpa using this)), decide_eq_false (fun z => hc (by simpa using z))]
    refine ⟨_, rfl, _, rfl, _, rfl, hls, rfl, .inr ⟨_, rfl, ?_⟩⟩
    rw [ecut, efst]
    refine ⟨_, rfl, _, rfl, l, fst0 l, rfl, hf, hl, fun H1 s1 => ?_⟩
    refine ⟨_, rfl, _, rfl, rfl, _, rfl, ?_⟩
    have two : ∀ {x : Str} {n : Nat} {t : Addr} {H2 : Hp}, Dp K (upd H2 t (.tup [.str x, .int (n : Int)])) (.ref t) (.tuple [.str x, .int (n : Int)]) := fun {x n t H2} => .tup (SqT.of upd_same) (.cons (.str _) (.cons (.int _) .nil))
    refine ite2 (fun he => ?_) (fun he => ?_)
    · have he' : mid0 l = fst0 l := vi_eq he
      refine ⟨_, rfl, _, _, rfl, rfl, (by show 2 ≤ sizeLine; decide), fun t ht => q t _ (s1.trans (AL.Same.new ht)) ?_⟩
      have hr : res l = .text (fst0 l + 1) := by unfold res; rw [if_pos he']
      rw [hr]
      exact two
    have he' : mid0 l ≠ fst0 l := vi_ne he
    have hlt : fst0 l < mid0 l := by omega
    have hrow := rowAt_len (l := l) (i := fst0 l) hm
    refine ⟨_, rfl, _, rfl, _, rfl, _, rfl, _, rfl, _, rfl, _, rfl, hls, (by show 1 ≤ sizeLine; decide), fun r hr => ?_⟩
    have er1 : cutS (S l) (some ((fst0 l : Nat) : Int)) (some ((mid0 l : Nat) : Int)) = S (rowAt l (fst0 l) (mid0 l)) := cut_mid l _ _
    have er1' : cutS (S l) (some ((fst0 l : Nat) : Int)) (some ((dEnd l (fst0 l) : Nat) : Int)) = S (rowAt l (fst0 l) (mid0 l)) := er1
    rw [er1']
    refine ⟨_, _, rfl, ?_⟩
    have hHr : H r = none := none_of_same s1 hr
    have s2 := s1.trans (AL.Same.new (o := .lst [.str (S (rowAt l (fst0 l) (mid0 l)))]) hr)
    have h2r := upd_same (H := H1) (a := r) (o := .lst [.str (S (rowAt l (fst0 l) (mid0 l)))])
    generalize hH2 : upd H1 r (.lst [.str (S (rowAt l (fst0 l) (mid0 l)))]) = H2 at s2 h2r ⊢
    refine ⟨fun σ' H' => Same H H' ∧ ∃ (rows : List V) (en : Nat), H' r = some (.lst rows) ∧ σ' = [some (.str (S l)), some (.int ((fst0 l : Nat) : Int)), some (.int ((mid0 l : Nat) : Int)), some (.int (en : Int)), some (.ref r), none, none] ∧
      ((slash0 l = true ∧ rows = [.str (S (rowAt l (fst0 l) (mid0 l))), .str (S (rowAt l (mid0 l + 1) (end0 l)))] ∧ en = end0 l ∧ end0 l ≠ mid0 l + 1) ∨ (slash0 l = false ∧ rows = [.str (S (rowAt l (fst0 l) (mid0 l)))] ∧ en = mid0 l)), ?_, ?_⟩
    · have ecs : cutS (S l) (some ((mid0 l : Nat) : Int)) (some (((mid0 l : Nat) : Int) + 1)) = S (rowAt l (mid0 l) (mid0 l + 1)) := cut_mid l (mid0 l) (mid0 l + 1)
      have hs : decide (V.str (cutS (S l) (some ((mid0 l : Nat) : Int)) (some (((mid0 l : Nat) : Int) + 1))) = V.str "/") = slash0 l := by
        rw [ecs, row_one, slashS]
        unfold slash0
        cases hc : l[mid0 l]? with
        | none => rfl
        | some c =>
          by_cases h47 : c = 47
          · subst h47; rfl
          · rw [decide_eq_false (fun z => h47 (by injection z with z; have := S_inj.mp z; simpa using this)), decide_eq_false (fun z => h47 (Option.some.inj z))]
      refine ⟨_, rfl, _, rfl, _, rfl, _, rfl, _, _, rfl, rfl, _, rfl, _, rfl, hls, rfl, _, rfl, ?_⟩
      refine ite2 (fun h1 => ?_) (fun h1 => ?_)
      · have e : slash0 l = true := hs ▸ h1
        refine ⟨_, rfl, _, rfl, _, _, rfl, rfl, l, mid0 l + 1, rfl, slash_lt e, hl, fun H3 s3 => ?_⟩
        refine ⟨_, rfl, _, rfl, _, _, rfl, rfl, rfl, _, rfl, ?_⟩
        refine ite2 (fun h2 => ?_) (fun h2 => ?_)
        · have h2' : end0 l = mid0 l + 1 := vi_eq h2
          refine ⟨_, rfl, _, _, rfl, rfl, (by show 2 ≤ sizeLine; decide), fun t ht => q t _ ((s2.trans s3).trans (AL.Same.new ht)) ?_⟩
          have hr : res l = .text (end0 l + 1) := by unfold res; rw [if_neg he', if_pos e, if_pos h2']
          rw [hr]
          exact two
        · have h2' : end0 l ≠ mid0 l + 1 := vi_ne h2
          have h3r := s3 _ _ h2r
          refine ⟨_, rfl, .inl ⟨rfl, _, SqL.of h3r⟩, _, rfl, _, rfl, _, _, rfl, rfl, _, rfl, _, rfl, _, rfl, _, rfl, hls, r, _, _, rfl, rfl, h3r, (by show 1 < sizeLine; decide), AL.Same.updn (s2.trans s3) hHr, _, end0 l, upd_same, rfl, .inl ⟨e, ?_, rfl, h2'⟩⟩
          have ec2 : cutS (S l) (some (((dEnd l (fst0 l) : Nat) : Int) + 1)) (some ((dEnd l (mid0 l + 1) : Nat) : Int)) = S (rowAt l (mid0 l + 1) (end0 l)) := cut_mid l (mid0 l + 1) (end0 l)
          rw [ec2]
          rfl
      · exact ⟨s2, _, mid0 l, h2r, rfl, .inr ⟨Bool.eq_false_iff.mpr fun z => h1 (hs.trans z), rfl, rfl⟩⟩
    rintro σ3 H3 ⟨s3, rows, en, h3r, rfl, hcase⟩
    refine ⟨_, rfl, _, rfl, _, rfl, hls, _, _, rfl, rfl, _, rfl, ?_⟩
    rw [S_len]
    refine ite2 (fun h1 => ?_) (fun h1 => ?_)
    · have h1' : en < l.length := by have := of_decide_eq_true h1; omega
      refine ⟨_, rfl, _, _, rfl, rfl, (by show 2 ≤ sizeLine; decide), fun t ht => q t _ (s3.trans (AL.Same.new ht)) ?_⟩
      have hr : res l = .text (en + 1) := by
        unfold res
        rw [if_neg he']
        rcases hcase with ⟨e, _, rfl, h5⟩ | ⟨e, _, rfl⟩
        · rw [if_pos e, if_neg h5, if_pos h1']
        · rw [if_neg (by rw [e]; decide), if_pos h1']
      rw [hr]
      exact two
    have h1' : ¬ en < l.length := fun z => h1 (decide_eq_true (by omega))
    have f1 : fst0 l = 1 → ∀ x, sgn l x = -x := fun z x => by
      have : neg l = true := by
        unfold fst0 at z
        by_cases hn : neg l = true
        · exact hn
        · rw [if_neg hn] at z; cases z
      unfold sgn; rw [if_pos this]
    have f2 : fst0 l ≠ 1 → ∀ x, sgn l x = x := fun z x => by
      have : ¬ neg l = true := fun hn => z (by unfold fst0; rw [if_pos hn])
      unfold sgn; rw [if_neg this]
    have hrl1 : (S (rowAt l (fst0 l) (mid0 l))).length ≤ sizeLine := by rw [S_len, hrow]; exact Nat.le_trans (by omega : _ ≤ 20000) (by decide)
    have hti : mid0 l - fst0 l ≤ 4000 → intText? (S (rowAt l (fst0 l) (mid0 l))) = some ((topV l : Nat) : Int) := fun z => row_int (i := fst0 l) hlt hf z
    rcases hcase with ⟨e, rfl, rfl, h5⟩ | ⟨e, rfl, rfl⟩
    · have hel := end0_le e
      have hrow2 := rowAt_len (l := l) (i := mid0 l + 1) hel
      have h6 : mid0 l + 1 ≤ end0 l := dEnd_ge _ _
      have hrl2 : (S (rowAt l (mid0 l + 1) (end0 l))).length ≤ sizeLine := by rw [S_len, hrow2]; exact Nat.le_trans (by omega : _ ≤ 20000) (by decide)
      refine ⟨_, rfl, r, rfl, ⟨_, SqL.of h3r⟩, for_list (K := K) (a := r) (xs := [.str (S (rowAt l (fst0 l) (mid0 l))), .str (S (rowAt l (mid0 l + 1) (end0 l)))]) (fun i σ H' => H' = H3 ∧ (∃ v, σ = [some (.str (S l)), some (.int ((fst0 l : Nat) : Int)), some (.int ((mid0 l : Nat) : Int)), some (.int ((end0 l : Nat) : Int)), some (.ref r), v, none]) ∧ (1 ≤ i → mid0 l - fst0 l ≤ 4000) ∧ (2 ≤ i → end0 l - (mid0 l + 1) ≤ 4000)) ⟨rfl, ⟨none, rfl⟩, fun z => by omega, fun z => by omega⟩ (fun i σ H' _ hh => by rw [hh.1]; exact SqL.of h3r) ?_ ?_⟩
      · rintro i y σ H' hy ⟨rfl, ⟨v, rfl⟩, k1, k2⟩
        match i, hy with
        | 0, hy =>
          cases hy
          refine ⟨_, rfl, _, rfl, hrl1, _, _, rfl, rfl, _, rfl, ?_⟩
          rw [S_len, hrow]
          refine ite2 (fun hbig => ?_) (fun hbig => ?_)
          · have hbig' := of_decide_eq_true hbig
            refine ⟨_, rfl, _, rfl, hrl1, (by show 2 ≤ sizeLine; decide), fun t ht => ?_⟩
            rw [S_len, hrow]
            refine q t _ (s3.trans (AL.Same.new ht)) ?_
            have er : res l = .large (mid0 l - fst0 l) := by
              unfold res
              rw [if_neg he', if_pos e, if_neg h5, if_neg h1', if_pos (by omega)]
            rw [er]
            exact two
          · have hbig' : ¬ 4000 < mid0 l - fst0 l := fun z => hbig (decide_eq_true (by omega))
            exact ⟨rfl, ⟨_, rfl⟩, fun _ => by omega, fun z => by omega⟩
    
        | 1, hy =>
          cases hy
          have k1' := k1 (Nat.le_refl _)
          refine ⟨_, rfl, _, rfl, hrl2, _, _, rfl, rfl, _, rfl, ?_⟩
          rw [S_len, hrow2]
          refine ite2 (fun hbig => ?_) (fun hbig => ?_)
          · have hbig' := of_decide_eq_true hbig
            refine ⟨_, rfl, _, rfl, hrl2, (by show 2 ≤ sizeLine; decide), fun t ht => ?_⟩
            rw [S_len, hrow2]
            refine q t _ (s3.trans (AL.Same.new ht)) ?_
            have er : res l = .large (end0 l - (mid0 l + 1)) := by
              unfold res
              rw [if_neg he', if_pos e, if_neg h5, if_neg h1', if_neg (by omega), if_pos (by omega)]
            rw [er]
            exact two
          · have hbig' : ¬ 4000 < end0 l - (mid0 l + 1) := fun z => hbig (decide_eq_true (by omega))
            exact ⟨rfl, ⟨_, rfl⟩, fun _ => k1', fun z => by omega⟩
    
        | _ + 2, hy => cases hy
      · rintro σ H' ⟨rfl, ⟨v, rfl⟩, k1, k2⟩
        have k1' := k1 (by show 1 ≤ 2; decide)
        have k2' := k2 (by show 2 ≤ 2; decide)
        have hti' := hti k1'
        have hbi : intText? (S (rowAt l (mid0 l + 1) (end0 l))) = some ((botV l : Nat) : Int) := row_int (i := mid0 l + 1) (by show mid0 l + 1 < end0 l; omega) (slash_lt e) k2'
        have er0 : res l = if botV l = 0 then .text (mid0 l + 2) else .ratio (sgn l (red (topV l) (botV l)).1) (red (topV l) (botV l)).2 := by
          unfold res
          rw [if_neg he', if_pos e, if_neg h5, if_neg h1', if_neg (by omega), if_neg (by omega)]
        refine ⟨_, rfl, r, _, rfl, .inl (SqL.of h3r), rfl, _, rfl, ?_⟩
        refine iteT ?_
        refine ⟨_, rfl, r, _, _, _, rfl, rfl, SqL.of h3r, rfl, _, _, rfl, hbi, hrl2, rfl, _, rfl, ?_⟩
        refine ite2 (fun hz => ?_) (fun hz => ?_)
        · have hz' : botV l = 0 := vi_eq (j := 0) hz
          rw [if_pos hz'] at er0
          refine ⟨_, rfl, _, _, rfl, rfl, (by show 2 ≤ sizeLine; decide), fun t ht => q t _ (s3.trans (AL.Same.new ht)) ?_⟩
          rw [er0]
          exact two
        · have hz' : botV l ≠ 0 := vi_ne (j := 0) hz
          rw [if_neg hz'] at er0
          have er := er0
          refine ⟨_, rfl, r, _, _, _, rfl, rfl, SqL.of h3r, rfl, _, _, rfl, hti', hrl1, _, rfl, r, _, rfl, .inl (SqL.of h3r), rfl, _, rfl, ?_⟩
          refine iteT ?_
          refine ⟨_, rfl, r, _, _, _, rfl, rfl, SqL.of h3r, rfl, _, _, rfl, hbi, hrl2, topV l, botV l, rfl, topV_lt k1', botV_lt e k2', hz', fun t ht => ?_⟩
          have s4 := s3.trans (AL.Same.new (o := .tup [.int (red (topV l) (botV l)).1, .int (red (topV l) (botV l)).2]) ht)
          have h4t := upd_same (H := H') (a := t) (o := .tup [.int (red (topV l) (botV l)).1, .int (red (topV l) (botV l)).2])
          generalize hH4 : upd H' t (.tup [.int (red (topV l) (botV l)).1, .int (red (topV l) (botV l)).2]) = H4 at s4 h4t ⊢
          refine ⟨_, rfl, rfl, _, rfl, ?_⟩
          refine ite2 (fun hone => ?_) (fun hone => ?_)
          · have hone' : fst0 l = 1 := vi_eq (j := 1) hone
            refine ⟨_, rfl, t, _, _, _, rfl, rfl, SqT.of h4t, rfl, _, rfl, _, rfl, t, _, _, _, rfl, rfl, SqT.of h4t, rfl, (by show 2 ≤ sizeLine; decide), fun t2 ht2 => ⟨(by show 2 ≤ sizeLine; decide), fun t3 ht3 => q t3 _ ((s4.trans (AL.Same.new ht2)).trans (AL.Same.new ht3)) ?_⟩⟩
            rw [er]
            rw [f1 hone']
            exact .tup (SqT.of upd_same) (.cons (.str _) (.cons (.tup (SqT.of (Eq.trans (upd_ne (fun z => by rw [z, upd_same] at ht3; cases ht3)) upd_same)) (.cons (.int _) (.cons (.int _) .nil))) .nil))
          · have hone' : fst0 l ≠ 1 := vi_ne (j := 1) hone
            refine ⟨_, rfl, (by show 2 ≤ sizeLine; decide), fun t3 ht3 => q t3 _ (s4.trans (AL.Same.new ht3)) ?_⟩
            rw [er]
            rw [f2 hone']
            exact .tup (SqT.of upd_same) (.cons (.str _) (.cons (.tup (SqT.of (Eq.trans (upd_ne (ne_of_none h4t ht3)) h4t)) (.cons (.int _) (.cons (.int _) .nil))) .nil))
    
    · have hel : mid0 l = l.length := by omega
      refine ⟨_, rfl, r, rfl, ⟨_, SqL.of h3r⟩, for_list (K := K) (a := r) (xs := [.str (S (rowAt l (fst0 l) (mid0 l)))]) (fun i σ H' => H' = H3 ∧ (∃ v, σ = [some (.str (S l)), some (.int ((fst0 l : Nat) : Int)), some (.int ((mid0 l : Nat) : Int)), some (.int ((mid0 l : Nat) : Int)), some (.ref r), v, none]) ∧ (1 ≤ i → mid0 l - fst0 l ≤ 4000)) ⟨rfl, ⟨none, rfl⟩, fun z => by omega⟩ (fun i σ H' _ hh => by rw [hh.1]; exact SqL.of h3r) ?_ ?_⟩
      · rintro i y σ H' hy ⟨rfl, ⟨v, rfl⟩, k1⟩
        match i, hy with
        | 0, hy =>
          cases hy
          refine ⟨_, rfl, _, rfl, hrl1, _, _, rfl, rfl, _, rfl, ?_⟩
          rw [S_len, hrow]
          refine ite2 (fun hbig => ?_) (fun hbig => ?_)
          · have hbig' := of_decide_eq_true hbig
            refine ⟨_, rfl, _, rfl, hrl1, (by show 2 ≤ sizeLine; decide), fun t ht => ?_⟩
            rw [S_len, hrow]
            refine q t _ (s3.trans (AL.Same.new ht)) ?_
            have er : res l = .large (mid0 l - fst0 l) := by
              unfold res
              rw [if_neg he', if_neg (by rw [e]; decide), if_neg h1', if_pos (by omega)]
            rw [er]
            exact two
          · have hbig' : ¬ 4000 < mid0 l - fst0 l := fun z => hbig (decide_eq_true (by omega))
            exact ⟨rfl, ⟨_, rfl⟩, fun _ => by omega⟩
    
        | _ + 1, hy => cases hy
      · rintro σ H' ⟨rfl, ⟨v, rfl⟩, k1⟩
        have k1' := k1 (by show 1 ≤ 1; decide)
        have hti' := hti k1'
        have er0 : res l = .ratio (sgn l (topV l)) 1 := by
          unfold res
          rw [if_neg he', if_neg (by rw [e]; decide), if_neg h1', if_neg (by omega)]
        have er : res l = .ratio (sgn l (red (topV l) 1).1) (red (topV l) 1).2 := by
          rw [er0]; unfold red; rw [Nat.gcd_one_right, Nat.div_one]; rfl
        refine ⟨_, rfl, r, _, rfl, .inl (SqL.of h3r), rfl, _, rfl, ?_⟩
        refine iteF ?_
        refine ⟨_, rfl, r, _, _, _, rfl, rfl, SqL.of h3r, rfl, _, _, rfl, hti', hrl1, _, rfl, r, _, rfl, .inl (SqL.of h3r), rfl, _, rfl, ?_⟩
        refine iteF ?_
        refine ⟨topV l, 1, rfl, topV_lt k1', one4, by decide, fun t ht => ?_⟩
        have s4 := s3.trans (AL.Same.new (o := .tup [.int (red (topV l) 1).1, .int (red (topV l) 1).2]) ht)
        have h4t := upd_same (H := H') (a := t) (o := .tup [.int (red (topV l) 1).1, .int (red (topV l) 1).2])
        generalize hH4 : upd H' t (.tup [.int (red (topV l) 1).1, .int (red (topV l) 1).2]) = H4 at s4 h4t ⊢
        refine ⟨_, rfl, rfl, _, rfl, ?_⟩
        refine ite2 (fun hone => ?_) (fun hone => ?_)
        · have hone' : fst0 l = 1 := vi_eq (j := 1) hone
          refine ⟨_, rfl, t, _, _, _, rfl, rfl, SqT.of h4t, rfl, _, rfl, _, rfl, t, _, _, _, rfl, rfl, SqT.of h4t, rfl, (by show 2 ≤ sizeLine; decide), fun t2 ht2 => ⟨(by show 2 ≤ sizeLine; decide), fun t3 ht3 => q t3 _ ((s4.trans (AL.Same.new ht2)).trans (AL.Same.new ht3)) ?_⟩⟩
          rw [er]
          rw [f1 hone']
          exact .tup (SqT.of upd_same) (.cons (.str _) (.cons (.tup (SqT.of (Eq.trans (upd_ne (fun z => by rw [z, upd_same] at ht3; cases ht3)) upd_same)) (.cons (.int _) (.cons (.int _) .nil))) .nil))
        · have hone' : fst0 l ≠ 1 := vi_ne (j := 1) hone
          refine ⟨_, rfl, (by show 2 ≤ sizeLine; decide), fun t3 ht3 => q t3 _ (s4.trans (AL.Same.new ht3)) ?_⟩
          rw [er]
          rw [f2 hone']
          exact .tup (SqT.of upd_same) (.cons (.str _) (.cons (.tup (SqT.of (Eq.trans (upd_ne (ne_of_none h4t ht3)) h4t)) (.cons (.int _) (.cons (.int _) .nil))) .nil))
end
end AL
set_option Elab.async false
set_option maxRecDepth 100000
set_option exponentiation.threshold 70000
set_option maxHeartbeats 1000000
namespace AL
open PySem L2

theorem res_ratio {l : List Nat} {p r : Int} (h : res l = .ratio p r) : p.natAbs < N6 ∧ r.natAbs < N6 ∧ 0 < r ∧ Nat.gcd p.natAbs r.natAbs = 1 := by
  have hw : wcol l = 0 := by
    rcases Nat.eq_zero_or_pos (wcol l) with z | z
    · exact z
    · rw [res_bad z] at h; cases h
  rw [res_ok hw] at h
  have red_ok : ∀ a b : Nat, a < N4 → b < N4 → b ≠ 0 → (sgn l (red a b).1).natAbs < N6 ∧ (red a b).2.natAbs < N6 ∧ 0 < (red a b).2 ∧ Nat.gcd (sgn l (red a b).1).natAbs (red a b).2.natAbs = 1 := by
    intro a b ha hb h0
    have hg : 0 < Nat.gcd a b := Nat.gcd_pos_of_pos_right a (Nat.pos_of_ne_zero h0)
    have e1 : (sgn l (red a b).1).natAbs = a / Nat.gcd a b := sgn_abs l _
    have e2 : (red a b).2.natAbs = b / Nat.gcd a b := Int.natAbs_natCast _
    have p46 := pow46
    refine ⟨?_, ?_, ?_, ?_⟩
    · rw [e1]; exact Nat.lt_of_le_of_lt (Nat.div_le_self _ _) (by omega)
    · rw [e2]; exact Nat.lt_of_le_of_lt (Nat.div_le_self _ _) (by omega)
    · have : 0 < b / Nat.gcd a b := Nat.div_pos (Nat.le_of_dvd (Nat.pos_of_ne_zero h0) (Nat.gcd_dvd_right a b)) hg
      show (0 : Int) < ((b / Nat.gcd a b : Nat) : Int)
      omega
    · rw [e1, e2, Nat.gcd_div (Nat.gcd_dvd_left a b) (Nat.gcd_dvd_right a b), Nat.div_self hg]
  by_cases h1 : 4000 < mid0 l - fst0 l
  · rw [if_pos h1] at h; cases h
  · rw [if_neg h1] at h
    have ht := topV_lt (l := l) (by omega)
    by_cases h2 : slash0 l = true
    · rw [if_pos h2] at h
      by_cases h3 : 4000 < end0 l - (mid0 l + 1)
      · rw [if_pos h3] at h; cases h
      · rw [if_neg h3] at h
        by_cases h4 : botV l = 0
        · rw [if_pos h4] at h; cases h
        · rw [if_neg h4] at h
          injection h with e1 e2
          subst e1 e2
          exact red_ok _ _ ht (botV_lt h2 (by omega)) h4
    · rw [if_neg h2] at h
      injection h with e1 e2
      subst e1 e2
      have := red_ok (topV l) 1 ht one4 (by decide)
      unfold red at this
      rw [Nat.gcd_one_right, Nat.div_one] at this
      exact this
/-- _law_read(text) -/
def spRead (K : PySem.W.Frag) : Sp := fun vs H Q _ => ∃ (l : List Nat), vs = [.str (S l)] ∧ l.length ≤ 20000 ∧ ∀ t H', Same H H' → Dp K H' (.ref t) (resD (res l)) → Q (.ref t) H'
theorem cut_from (l : List Nat) (i : Nat) : cutS (S l) (some (i : Int)) none = S (l.drop i) := by
  have e := cut_mid l i l.length
  rw [List.take_length] at e
  rw [← e]
  unfold cutS
  have h1 : HT.sIx (S l).length (S l).length none = HT.sIx (S l).length (S l).length (some ((l.length : Nat) : Int)) := by
    rw [HT.sIx_nat, HT.sIx_none, S_len, Nat.min_self]
  rw [h1]
theorem str_len {n k : Nat} (hk : 0 < k) (h : n < 10 ^ k) : (Str.ofString (toString ((n : Nat) : Int))).length ≤ k := by
  rw [show (Str.ofString (toString ((n : Nat) : Int))).length = (TL.numL n).length by rw [TL.len_tl]; exact congrArg List.length (TL.tl_num n)]
  exact TL.numL_len hk h
/-- _law_begin(pen) -/
def spBegin : Sp := fun vs H Q _ => ∃ (p c : Addr) (m : Nat), vs = [.ref p] ∧ Pen H p c m ∧ m < 800000000 ∧ ∀ (l : List Nat) H', l.length ≤ 15000 → Pen H' p c (m + 1000) → Q (.str (S l)) H'
/-- _law_bent(pen, text) -/
def spBent : Sp := fun vs H Q _ => ∃ (p c : Addr) (m : Nat) (l : List Nat), vs = [.ref p, .str (S l)] ∧ Pen H p c m ∧ m < 800000000 ∧ l.length ≤ 19000 ∧ ∀ (l' : List Nat) H', l'.length ≤ l.length + 1 → Pen H' p c (m + 10) → Q (.str (S l')) H'

/-- law's: a list of at most 63 ints is handed in, True comes out -/
def spLaw (K : PySem.W.Frag) : Sp := fun vs H Q _ => ∃ (a : Addr) (ns : List Int), vs = [.ref a] ∧ SqL K H a (ns.map V.int) ∧ ns.length ≤ 63 ∧ ∀ H', Q (.bl true) H'
theorem resD_ok (r : Res) : SeqAt.shaped (resD r) = true := by
  have h1 : PyData.strOk (Str.ofString "text") = true := by decide +kernel
  have h2 : PyData.strOk (Str.ofString "large") = true := by decide +kernel
  have h3 : PyData.strOk (Str.ofString "ratio") = true := by decide +kernel
  cases r <;> simp [h1, h2, h3, SeqAt.shaped, resD, PyData.canLay0, PyData.canLayAll0, PyData.depth, PyData.depthAll]
section
variable {P : Program} {w : World} {K : PySem.W.Frag} {mg : Str → Option Value} {base : Heap}
abbrev st_law_read : Stmt := top 24
theorem sc_law_read : FnScope ["_law_value", "_law_found", "e"] ["_law_value"] (defScope st_law_read) := ⟨rfl, rfl, rfl, by decide +kernel, rfl, by decide +kernel, by decide +kernel⟩
theorem ok_law_read (B : Blt mg) {BT TL CS fB fT : Addr} {fdB fdT : FuncData} (Es : Er K mg BT TL CS fB fT fdB fdT) {f_law_gcd : Addr} {fd_law_gcd : FuncData} (D_law_gcd : DefAt K mg "_law_gcd" st_law_gcd ["_law_one", "_law_two"] f_law_gcd fd_law_gcd) {f_law_is_whole : Addr} {fd_law_is_whole : FuncData} (D_law_is_whole : DefAt K mg "_law_is_whole" st_law_is_whole ["_law_value"] f_law_is_whole fd_law_is_whole) {f_law_is_ratio : Addr} {fd_law_is_ratio : FuncData} (D_law_is_ratio : DefAt K mg "_law_is_ratio" st_law_is_ratio ["_law_value"] f_law_is_ratio fd_law_is_ratio) {flowest : Addr} {fdlowest : FuncData} (Dlowest : DefAt K mg "lowest" stlowest ["top", "bottom"] flowest fdlowest) {fdigits_end : Addr} {fddigits_end : FuncData} (Ddigits_end : DefAt K mg "digits_end" stdigits_end ["text", "start"] fdigits_end fddigits_end) {fwrong_column : Addr} {fdwrong_column : FuncData} (Dwrong_column : DefAt K mg "wrong_column" stwrong_column ["text"] fwrong_column fdwrong_column) {fratio_of : Addr} {fdratio_of : FuncData} (Dratio_of : DefAt K mg "ratio_of" stratio_of ["text"] fratio_of fdratio_of) {f_law_read : Addr} {fd_law_read : FuncData} (D_law_read : DefAt K mg "_law_read" st_law_read ["_law_value"] f_law_read fd_law_read) : FnOk P w K mg base CX0 4 f_law_read fd_law_read ["_law_value"] (spRead K) := by
  have OK_law_is_ratio : FnOk P w K mg base CX0 2 f_law_is_ratio fd_law_is_ratio ["_law_value"] (spIsRat K) := ok_law_is_ratio B  D_law_gcd D_law_is_whole D_law_is_ratio
  have OKratio_of : FnOk P w K mg base (L2.CX P w) 3 fratio_of fdratio_of ["text"] (spRatio K BT TL) := okratio_of B Es Dlowest Ddigits_end Dwrong_column Dratio_of
  refine D_law_read.F.ok sc_law_read (fun vs H Q E h => ?_) (fun cdv A outer s H vs Q E hr h => ?_)
  · obtain ⟨l, rfl, _⟩ := h; rfl
  · have hu := hu_of hr
    refine ⟨_, (pss_cons (ps_tryN rfl rfl sc_law_read.nd takes0 (fun W pn xe tk _ => (pss_one (ps_set (i := 1) sc_law_read.nd rfl (Or.inl rfl) (pe_callS OKratio_of (hr.mono (by decide)) rfl Dratio_of.m Dratio_of.F.kp Dratio_of.b (fun σ => passAt tk σ) (pa_cons (pv 0) pa_nil))))) (Named.cons (i := 2) ⟨rfl, by decide, .inl Es.eB.m⟩ rfl rfl (fun a oe cls dd pn hz hf => (pss_cons (ps_if (PW.pt (pw_or (pt_not (pt_val (pe_callB (call_isC2 Es.eB.ex hz hf) (by rfl) B.isinstance_ (by decide +kernel) (pa_cons (pv 2) (pa_cons (pe_glob (v := .ref CS) rfl Es.mS rfl) pa_nil))))) (pw_or (pt_not (pt_val (pe_callB (call_isC2 Es.eB.ex hz hf) (by rfl) B.isinstance_ (by decide +kernel) (pa_cons (pv 2) (pa_cons (pe_bltn (v := .ty "ValueError") (by rfl) Es.nV PyProof.Rows.Boot.«ValueError» rfl) pa_nil))))) (pw_or (pt_val (pe_callB (call_isC2 Es.eB.ex hz hf) (by rfl) B.isinstance_ (by decide +kernel) (pa_cons (pv 2) (pa_cons (pe_glob (v := .ref TL) rfl Es.eT.m rfl) pa_nil)))) (pw_or1 (pt_cmpR op_ne (pe_xf Es.eB.xf (Es.eB.no _ (by decide +kernel)) hz hf (pv 2)) pe_int (nomark _))))))) (pss_one (ps_ret (pe_tup (pa_cons pe_str (pa_cons pe_int pa_nil))))) pss_nil)
    (pss_one (ps_ret (pe_tup (pa_cons pe_str (pa_cons (pe_xf Es.eB.xf (Es.eB.no _ (by decide +kernel)) hz hf (pv 2)) pa_nil))))))) (Named.cons (i := 2) ⟨rfl, by decide, .inl Es.eT.m⟩ rfl rfl (fun a oe cls dd pn hz hf => (pss_one (ps_ret (pe_ifExp (pt_cmpR (op_eqS hr.units) (pe_tup (pa_cons (pe_xf Es.eT.xf (Es.eT.no _ (by decide +kernel)) hz hf (pv 2)) (pa_cons (pe_xf Es.eT.xf (Es.eT.no _ (by decide +kernel)) hz hf (pv 2)) pa_nil))) (pe_tup (pa_cons pe_str (pa_cons pe_int pa_nil))) (nomark _)) (pe_tup (pa_cons pe_str (pa_cons (pe_xf Es.eT.xf (Es.eT.no _ (by decide +kernel)) hz hf (pv 2)) pa_nil))) (pe_tup (pa_cons pe_str (pa_cons pe_int pa_nil))))))) .nil)))
    (pss_one (ps_ret (pe_ifExp (pt_val (pe_call OK_law_is_ratio (hr.mono (by decide)) rfl D_law_is_ratio.m D_law_is_ratio.F.kp D_law_is_ratio.b .nil pass0 (pa_cons (pv 1) pa_nil))) (pe_tup (pa_cons pe_str (pa_cons (pv 1) pa_nil))) (pe_tup (pa_cons pe_str (pa_cons pe_int pa_nil))))))), ?_⟩
    obtain ⟨l, rfl, hl, q⟩ := h
    refine ⟨_, rfl, _, rfl, .inl ⟨l, rfl, hl, fun c hc dx H1 hdx s1 => ?_, fun n hn dx H1 hdx s1 => ?_, fun p r hpr t H1 ht s1 => ?_⟩⟩
    · have s2 := s1.trans (AL.Same.new (o := .xd [("column", .int (c : Int)), ("line", .int 1)]) hdx)
      refine ⟨true, Es.xBB, fun _ a ha => ?_, fun z => by cases z⟩
      refine ⟨_, rfl, rfl, dx, rfl, _, _, true, rfl, ClsV.own _, ⟨_, upd_same⟩, Es.kBS, _, rfl, ?_⟩
      refine iteF ?_
      refine ⟨_, rfl, rfl, dx, rfl, _, _, true, rfl, ClsV.ty _, ⟨_, upd_same⟩, Es.kBV, _, rfl, ?_⟩
      refine iteF ?_
      refine ⟨_, rfl, rfl, dx, rfl, _, _, false, rfl, ClsV.own _, ⟨_, upd_same⟩, Es.kBT, _, rfl, ?_⟩
      refine iteF ?_
      refine ⟨_, rfl, rfl, rfl, dx, _, .int 1, rfl, upd_same, (by kernel_rfl), rfl, _, rfl, ?_⟩
      refine iteF ?_
      refine ⟨_, rfl, rfl, rfl, dx, _, .int (c : Int), rfl, upd_same, (by kernel_rfl), (by show 2 ≤ sizeLine; decide), fun t ht => q t _ (s2.trans (AL.Same.new ht)) ?_⟩
      rw [hc]
      exact .tup (SqT.of upd_same) (.cons (.str _) (.cons (.int _) .nil))
    · have s2 := s1.trans (AL.Same.new (o := .xd [("limit", .int 4000), ("number", .int (n : Int)), ("what", .str "digits")]) hdx)
      refine ⟨false, Es.xTB, fun z => (by cases z), fun _ => ⟨true, Es.xTT, fun _ a ha => ?_, fun z => by cases z⟩⟩
      have hd := upd_same (H := H1) (a := dx) (o := .xd [("limit", .int 4000), ("number", .int (n : Int)), ("what", .str "digits")])
      generalize hH2 : upd H1 dx (.xd [("limit", .int 4000), ("number", .int (n : Int)), ("what", .str "digits")]) = H2 at s2 hd ⊢
      refine ⟨_, rfl, rfl, rfl, dx, _, .str "digits", rfl, hd, (by kernel_rfl), _, rfl, rfl, rfl, dx, _, .int 4000, rfl, hd, (by kernel_rfl), (by show 2 ≤ sizeLine; decide), fun t1 ht1 => ⟨(by show 2 ≤ sizeLine; decide), fun t2 ht2 => ?_⟩⟩
      have n1 := AL.Same.new (o := .tup [.str "digits", .int 4000]) ht1
      have n2 := AL.Same.new (o := .tup [.str "digits", .int 4000]) ht2
      refine ⟨.tuple [.str "digits", .int 4000], .tuple [.str "digits", .int 4000], .tup (SqT.of (n2 _ _ upd_same)) (.cons (.str _) (.cons (.int _) .nil)), .tup (SqT.of upd_same) (.cons (.str _) (.cons (.int _) .nil)), by decide +kernel, by decide +kernel, _, rfl, ?_⟩
      rw [SeqAt.eqv_refl _ (SeqAt.canLay_of_shaped (by decide +kernel))]
      refine iteT ?_
      have hd2 := n2 _ _ (n1 _ _ hd)
      refine ⟨_, rfl, rfl, rfl, dx, _, .int (n : Int), rfl, hd2, (by kernel_rfl), (by show 2 ≤ sizeLine; decide), fun t ht => q t _ (((s2.trans n1).trans n2).trans (AL.Same.new ht)) ?_⟩
      rw [hn]
      exact .tup (SqT.of upd_same) (.cons (.str _) (.cons (.int _) .nil))
    · obtain ⟨b1, b2, b3, b4⟩ := res_ratio hpr
      have s2 := s1.trans (AL.Same.new (o := .tup [.int p, .int r]) ht)
      have h2 := upd_same (H := H1) (a := t) (o := .tup [.int p, .int r])
      generalize hH2 : upd H1 t (.tup [.int p, .int r]) = H2 at s2 h2 ⊢
      refine ⟨_, rfl, t, p, r, rfl, h2, b1, b2, b3, b4, _, rfl, ?_⟩
      refine iteT ?_
      refine ⟨_, rfl, (by show 2 ≤ sizeLine; decide), fun t3 ht3 => q t3 _ (s2.trans (AL.Same.new ht3)) ?_⟩
      rw [hpr]
      exact .tup (SqT.of upd_same) (.cons (.str _) (.cons (.tup (SqT.of (Eq.trans (upd_ne (ne_of_none h2 ht3)) h2)) (.cons (.int _) (.cons (.int _) .nil))) .nil))
abbrev st_law_begin : Stmt := top 25
theorem sc_law_begin : FnScope ["_law_pen_here", "_law_way", "_law_zeros", "_law_top", "_law_bottom", "_law_text"] ["_law_pen_here"] (defScope st_law_begin) := ⟨rfl, rfl, rfl, by decide +kernel, rfl, by decide +kernel, by decide +kernel⟩
theorem ok_law_begin (B : Blt mg)  {f_law_draw : Addr} {fd_law_draw : FuncData} (D_law_draw : DefAt K mg "_law_draw" st_law_draw ["_law_pen_here", "_law_many"] f_law_draw fd_law_draw) {f_law_pick : Addr} {fd_law_pick : FuncData} (D_law_pick : DefAt K mg "_law_pick" st_law_pick ["_law_pen_here", "_law_some"] f_law_pick fd_law_pick) {f_law_big : Addr} {fd_law_big : FuncData} (D_law_big : DefAt K mg "_law_big" st_law_big ["_law_pen_here", "_law_figures"] f_law_big fd_law_big) {f_law_begin : Addr} {fd_law_begin : FuncData} (D_law_begin : DefAt K mg "_law_begin" st_law_begin ["_law_pen_here"] f_law_begin fd_law_begin) : FnOk P w K mg base CX0 4 f_law_begin fd_law_begin ["_law_pen_here"] spBegin := by
  have OK_law_big : FnOk P w K mg base CX0 3 f_law_big fd_law_big ["_law_pen_here", "_law_figures"] spBig := ok_law_big B  D_law_draw D_law_pick D_law_big
  have OK_law_draw : FnOk P w K mg base CX0 1 f_law_draw fd_law_draw ["_law_pen_here", "_law_many"] spDraw := ok_law_draw B  D_law_draw
  have OK_law_pick : FnOk P w K mg base CX0 2 f_law_pick fd_law_pick ["_law_pen_here", "_law_some"] (spPick K) := ok_law_pick B  D_law_draw D_law_pick
  refine D_law_begin.F.ok sc_law_begin (fun vs H Q E h => ?_) (fun cdv A outer s H vs Q E hr h => ?_)
  · obtain ⟨p, c, m, rfl, _⟩ := h; rfl
  · have hu := hu_of hr
    refine ⟨_, (pss_cons (ps_set (i := 1) sc_law_begin.nd rfl (Or.inl rfl) (pe_call OK_law_draw (hr.mono (by decide)) rfl D_law_draw.m D_law_draw.F.kp D_law_draw.b .nil pass0 (pa_cons (pv 0) (pa_cons pe_int pa_nil))))
    (pss_cons (ps_if (pt_cmpR op_eq (pv 1) pe_int (nomark _)) (pss_one (ps_ret (pe_call OK_law_pick (hr.mono (by decide)) rfl D_law_pick.m D_law_pick.F.kp D_law_pick.b .nil pass0 (pa_cons (pv 0) (pa_cons (pe_lst (pa_cons pe_str (pa_cons pe_str (pa_cons pe_str (pa_cons pe_str (pa_cons pe_str (pa_cons pe_str (pa_cons pe_str (pa_cons pe_str (pa_cons pe_str (pa_cons pe_str (pa_cons pe_str pa_nil)))))))))))) pa_nil))))) pss_nil)
    (pss_cons (ps_set (i := 2) sc_law_begin.nd rfl (Or.inl rfl) (pe_op op_mulS pe_str (pe_call OK_law_pick (hr.mono (by decide)) rfl D_law_pick.m D_law_pick.F.kp D_law_pick.b .nil pass0 (pa_cons (pv 0) (pa_cons (pe_lst (pa_cons pe_int (pa_cons pe_int (pa_cons pe_int (pa_cons pe_int (pa_cons pe_int pa_nil)))))) pa_nil)))))
    (pss_cons (ps_par (i := 3) (j := 4) (by rfl) sc_law_begin.nd rfl rfl (by decide) rfl rfl (pa_cons (pe_callTy call_str_int (by rfl) B.str_ (by decide +kernel) (pa_cons (pe_call OK_law_big (hr.mono (by decide)) rfl D_law_big.m D_law_big.F.kp D_law_big.b .nil pass0 (pa_cons (pv 0) (pa_cons pe_int pa_nil))) pa_nil)) (pa_cons (pe_callTy call_str_int (by rfl) B.str_ (by decide +kernel) (pa_cons (pe_op op_add pe_int (pe_call OK_law_big (hr.mono (by decide)) rfl D_law_big.m D_law_big.F.kp D_law_big.b .nil pass0 (pa_cons (pv 0) (pa_cons pe_int pa_nil)))) pa_nil)) pa_nil)) (by rfl))
    (Evl.pss_cut (ps_if (pt_cmpR op_eq (pv 1) pe_int (nomark _)) (pss_one (ps_set (i := 3) sc_law_begin.nd rfl (Or.inl rfl) (pe_op op_mulS (pe_call OK_law_pick (hr.mono (by decide)) rfl D_law_pick.m D_law_pick.F.kp D_law_pick.b .nil pass0 (pa_cons (pv 0) (pa_cons (pe_lst (pa_cons pe_str (pa_cons pe_str (pa_cons pe_str pa_nil)))) pa_nil))) (pe_call OK_law_pick (hr.mono (by decide)) rfl D_law_pick.m D_law_pick.F.kp D_law_pick.b .nil pass0 (pa_cons (pv 0) (pa_cons (pe_lst (pa_cons (pe_op op_add pe_int (pe_call OK_law_draw (hr.mono (by decide)) rfl D_law_draw.m D_law_draw.F.kp D_law_draw.b .nil pass0 (pa_cons (pv 0) (pa_cons pe_int pa_nil)))) (pa_cons pe_int (pa_cons pe_int pa_nil)))) pa_nil)))))) pss_nil)
    (Evl.pss_cut (ps_if (PW.pt (pw_or (pt_cmpR op_eq (pv 1) pe_int (nomark _)) (pw_or1 (PW.pt (pw_and (pt_cmpR op_eq (pv 1) pe_int (nomark _)) (pw_and1 (pt_cmpR op_eq (pe_call OK_law_draw (hr.mono (by decide)) rfl D_law_draw.m D_law_draw.F.kp D_law_draw.b .nil pass0 (pa_cons (pv 0) (pa_cons pe_int pa_nil))) pe_int (nomark _)))))))) (pss_one (ps_set (i := 4) sc_law_begin.nd rfl (Or.inl rfl) (pe_op op_mulS (pe_call OK_law_pick (hr.mono (by decide)) rfl D_law_pick.m D_law_pick.F.kp D_law_pick.b .nil pass0 (pa_cons (pv 0) (pa_cons (pe_lst (pa_cons pe_str (pa_cons pe_str (pa_cons pe_str pa_nil)))) pa_nil))) (pe_call OK_law_pick (hr.mono (by decide)) rfl D_law_pick.m D_law_pick.F.kp D_law_pick.b .nil pass0 (pa_cons (pv 0) (pa_cons (pe_lst (pa_cons (pe_op op_add pe_int (pe_call OK_law_draw (hr.mono (by decide)) rfl D_law_draw.m D_law_draw.F.kp D_law_draw.b .nil pass0 (pa_cons (pv 0) (pa_cons pe_int pa_nil)))) (pa_cons pe_int (pa_cons pe_int pa_nil)))) pa_nil)))))) pss_nil)
    (Evl.pss_cut (ps_set (i := 5) sc_law_begin.nd rfl (Or.inl rfl) (pe_ifExp (pt_cmpR op_eq (pv 1) pe_int (nomark _)) (pe_op op_add_str (pv 2) (pv 3)) (pe_op op_add_str (pe_op op_add_str (pe_op op_add_str (pv 3) pe_str) (pe_slice sl_str (pv 2) po_none (po_some pe_int))) (pv 4))))
    (pss_one (ps_ret (pe_op op_add_str (pe_call OK_law_pick (hr.mono (by decide)) rfl D_law_pick.m D_law_pick.F.kp D_law_pick.b .nil pass0 (pa_cons (pv 0) (pa_cons (pe_lst (pa_cons pe_str (pa_cons pe_str (pa_cons pe_str pa_nil)))) pa_nil))) (pv 5))))))))))), ?_⟩
    have hstr : ∀ {xs : List V}, xs = [.str "9", .str "1", .str "0"] → ∀ x ∈ xs, ∃ z : Str, x = .str z ∧ z.length ≤ 1 := by
      rintro xs rfl x hx
      simp only [List.mem_cons, List.not_mem_nil, or_false] at hx
      rcases hx with rfl | rfl | rfl
      · exact ⟨_, rfl, by decide +kernel⟩
      · exact ⟨_, rfl, by decide +kernel⟩
      · exact ⟨_, rfl, by decide +kernel⟩
    have nums : ∀ {r : Int} {xs : List V}, 0 ≤ r → r < 6 → xs = [.int (3998 + r), .int 4301, .int 6000] → ∀ x ∈ xs, ∃ k : Nat, x = .int (k : Int) ∧ k ≤ 6000 := by
      rintro r xs h0 h1 rfl x hx
      simp only [List.mem_cons, List.not_mem_nil, or_false] at hx
      rcases hx with rfl | rfl | rfl
      · exact ⟨(3998 + r).toNat, by congr 1; omega, by omega⟩
      · exact ⟨4301, rfl, by decide⟩
      · exact ⟨6000, rfl, by decide⟩
    
    obtain ⟨p, c, m, rfl, P, hm, q⟩ := h
    refine ⟨_, rfl, p, c, m, _, rfl, P, by omega, by decide, by decide, fun way H1 h0 h1 P1 k1 => ?_⟩
    refine ⟨_, rfl, rfl, _, rfl, ?_⟩
    refine ite2 (fun hw => ?_) (fun hw => ?_)
    · refine ⟨_, rfl, (by show 11 ≤ sizeLine; decide), fun a ha => ?_⟩
      refine ⟨p, c, a, m + 1, _, rfl, P1.same (AL.Same.new ha), by omega, SqL.of upd_same, (by show 0 < 11; decide), (by show 11 < 1000000000; decide), fun j x H2 hx P2 k2 => ?_⟩
      have hx' : ∃ z : Str, x = .str z ∧ z.length ≤ 6 := by
        refine pick_of (P := fun x => ∃ z : Str, x = .str z ∧ z.length ≤ 6) (fun y hy => ?_) hx
        simp only [List.mem_cons, List.not_mem_nil, or_false] at hy
        rcases hy with rfl | rfl | rfl | rfl | rfl | rfl | rfl | rfl | rfl | rfl | rfl <;> exact ⟨_, rfl, by decide +kernel⟩
      obtain ⟨z, rfl, hz⟩ := hx'
      obtain ⟨l, rfl⟩ := S_of z
      rw [S_len] at hz
      exact q l H2 (by omega) (P2.mono (by omega))
    refine ⟨_, rfl, (by show 5 ≤ sizeLine; decide), fun a ha => ⟨p, c, a, m + 1, _, rfl, P1.same (AL.Same.new ha), by omega, SqL.of upd_same, (by show 0 < 5; decide), (by show 5 < 1000000000; decide), fun j x H2 hx P2 k2 => ?_⟩⟩
    have hx' : ∃ k : Nat, x = .int (k : Int) ∧ k ≤ 3 := by
      refine pick_of (P := fun x => ∃ k : Nat, x = .int (k : Int) ∧ k ≤ 3) (fun y hy => ?_) hx
      simp only [List.mem_cons, List.not_mem_nil, or_false] at hy
      rcases hy with rfl | rfl | rfl | rfl | rfl
      · exact ⟨0, rfl, by decide⟩
      · exact ⟨0, rfl, by decide⟩
      · exact ⟨0, rfl, by decide⟩
      · exact ⟨1, rfl, by decide⟩
      · exact ⟨3, rfl, by decide⟩
    obtain ⟨k0, rfl, hk0⟩ := hx'
    have hlen1 : ("0" : Str).length ≤ 1 := by decide +kernel
    refine ⟨_, k0, rfl, rfl, by omega, by omega, fun sz hsz => ?_⟩
    have hsz3 : sz.length ≤ 3 := Nat.le_trans hsz (Nat.le_trans (Nat.mul_le_mul hlen1 hk0) (by decide))
    refine ⟨_, rfl, p, c, m + 2, 40, rfl, P2, by omega, by decide, by decide, fun r H3 hr P3 k3 => ?_⟩
    refine ⟨_, rfl, log2_small (by decide) (Nat.lt_trans (Nat.lt_of_lt_of_le (by rw [Int.natAbs_natCast]; exact hr) (Nat.pow_le_pow_right (by decide) (by decide : 40 ≤ 402))) pow402), ?_⟩
    refine ⟨_, rfl, p, c, m + 2 + 200, 30, rfl, P3, by omega, by decide, by decide, fun r2 H4 hr2 P4 k4 => ?_⟩
    have hr3 : 1 + r2 < 10 ^ 31 := by
      have : (10 : Nat) ^ 30 + 1 ≤ 10 ^ 31 := by decide
      omega
    have e12 : (1 : Int) + (r2 : Int) = ((1 + r2 : Nat) : Int) := by omega
    refine ⟨_, _, rfl, rfl, _, rfl, ?_, _, _, rfl, ?_⟩
    · rw [e12]
      exact log2_small (by decide) (Nat.lt_trans (Nat.lt_of_lt_of_le (by rw [Int.natAbs_natCast]; exact hr3) (Nat.pow_le_pow_right (by decide) (by decide : 31 ≤ 402))) pow402)
    have ht1 := str_len (k := 40) (by decide) hr
    have ht2 := str_len (k := 31) (by decide) hr3
    rw [e12]
    generalize (Str.ofString (toString ((r : Nat) : Int))) = st at ht1 ⊢
    generalize (Str.ofString (toString ((1 + r2 : Nat) : Int))) = sb at ht2 ⊢
    refine ⟨fun σ' H' => ∃ st sb : Str, st.length ≤ 6000 ∧ sb.length ≤ 6000 ∧ Pen H' p c (m + 500) ∧ σ' = [some (.ref p), some (.int way), some (.str sz), some (.str st), some (.str sb), none], ?_, ?_⟩
    · refine ⟨_, rfl, rfl, _, rfl, ?_⟩
      refine ite2 (fun _ => ?_) (fun _ => ?_)
      · refine ⟨_, rfl, (by show 3 ≤ sizeLine; decide), fun a ha => ⟨p, c, a, m + 2 + 200 + 200, _, rfl, P4.same (AL.Same.new ha), by omega, SqL.of upd_same, (by show 0 < 3; decide), (by show 3 < 1000000000; decide), fun j x H5 hx P5 k5 => ?_⟩⟩
        obtain ⟨z, rfl, hz⟩ := pick_of (hstr rfl) hx
        refine ⟨_, rfl, _, rfl, p, c, m + 2 + 200 + 200 + 1, _, rfl, P5, by omega, by decide, by decide, fun r5 H6 h05 h15 P6 k6 => ?_⟩
        refine ⟨_, _, rfl, rfl, (by show 3 ≤ sizeLine; decide), fun a2 ha2 => ⟨p, c, a2, m + 2 + 200 + 200 + 2, _, rfl, P6.same (AL.Same.new ha2), by omega, SqL.of upd_same, (by show 0 < 3; decide), (by show 3 < 1000000000; decide), fun j2 x2 H7 hx2 P7 k7 => ?_⟩⟩
        obtain ⟨k, rfl, hk⟩ := pick_of (nums h05 h15 rfl) hx2
        refine ⟨z, k, rfl, rfl, by omega, by omega, fun zz hzz => ?_⟩
        have hzl : zz.length ≤ 6000 := Nat.le_trans hzz (Nat.le_trans (Nat.mul_le_mul hz hk) (by decide))
        exact ⟨zz, sb, hzl, by omega, P7.mono (by omega), rfl⟩
      · exact ⟨st, sb, by omega, by omega, P4.mono (by omega), rfl⟩
    clear ht1 ht2 st sb
    rintro σ5 H5a ⟨st, sb, hst, hsb, P5a, rfl⟩
    refine ⟨fun σ' H' => ∃ st sb : Str, st.length ≤ 6000 ∧ sb.length ≤ 6000 ∧ Pen H' p c (m + 600) ∧ σ' = [some (.ref p), some (.int way), some (.str sz), some (.str st), some (.str sb), none], ?_, ?_⟩
    · refine ⟨_, rfl, rfl, _, rfl, ?_⟩
      refine ite2 (fun _ => ?_) (fun _ => ?_)
      · refine iteT ?_
        refine ⟨_, rfl, (by show 3 ≤ sizeLine; decide), fun a ha => ⟨p, c, a, m + 500, _, rfl, P5a.same (AL.Same.new ha), by omega, SqL.of upd_same, (by show 0 < 3; decide), (by show 3 < 1000000000; decide), fun j x H5 hx P5 k5 => ?_⟩⟩
        obtain ⟨z, rfl, hz⟩ := pick_of (hstr rfl) hx
        refine ⟨_, rfl, _, rfl, p, c, m + 500 + 1, _, rfl, P5, by omega, by decide, by decide, fun r5 H6 h05 h15 P6 k6 => ?_⟩
        refine ⟨_, _, rfl, rfl, (by show 3 ≤ sizeLine; decide), fun a2 ha2 => ⟨p, c, a2, m + 500 + 2, _, rfl, P6.same (AL.Same.new ha2), by omega, SqL.of upd_same, (by show 0 < 3; decide), (by show 3 < 1000000000; decide), fun j2 x2 H7 hx2 P7 k7 => ?_⟩⟩
        obtain ⟨k, rfl, hk⟩ := pick_of (nums h05 h15 rfl) hx2
        refine ⟨z, k, rfl, rfl, by omega, by omega, fun zz hzz => ?_⟩
        have hzl : zz.length ≤ 6000 := Nat.le_trans hzz (Nat.le_trans (Nat.mul_le_mul hz hk) (by decide))
        exact ⟨st, zz, hst, hzl, P7.mono (by omega), rfl⟩
      · refine ⟨_, rfl, rfl, _, rfl, ?_⟩
        refine ite2 (fun _ => ?_) (fun _ => ?_)
        · refine ⟨_, rfl, p, c, m + 500, _, rfl, P5a, by omega, by decide, by decide, fun r9 H9 h09 h19 P9 k9 => ?_⟩
          refine ⟨rfl, _, rfl, ?_⟩
          refine ite2 (fun _ => ?_) (fun _ => ?_)
          · refine ⟨_, rfl, (by show 3 ≤ sizeLine; decide), fun a ha => ⟨p, c, a, m + 500 + 1, _, rfl, P9.same (AL.Same.new ha), by omega, SqL.of upd_same, (by show 0 < 3; decide), (by show 3 < 1000000000; decide), fun j x H5 hx P5 k5 => ?_⟩⟩
            obtain ⟨z, rfl, hz⟩ := pick_of (hstr rfl) hx
            refine ⟨_, rfl, _, rfl, p, c, m + 500 + 1 + 1, _, rfl, P5, by omega, by decide, by decide, fun r5 H6 h05 h15 P6 k6 => ?_⟩
            refine ⟨_, _, rfl, rfl, (by show 3 ≤ sizeLine; decide), fun a2 ha2 => ⟨p, c, a2, m + 500 + 1 + 2, _, rfl, P6.same (AL.Same.new ha2), by omega, SqL.of upd_same, (by show 0 < 3; decide), (by show 3 < 1000000000; decide), fun j2 x2 H7 hx2 P7 k7 => ?_⟩⟩
            obtain ⟨k, rfl, hk⟩ := pick_of (nums h05 h15 rfl) hx2
            refine ⟨z, k, rfl, rfl, by omega, by omega, fun zz hzz => ?_⟩
            have hzl : zz.length ≤ 6000 := Nat.le_trans hzz (Nat.le_trans (Nat.mul_le_mul hz hk) (by decide))
            exact ⟨st, zz, hst, hzl, P7.mono (by omega), rfl⟩
          · exact ⟨st, sb, hst, hsb, P9.mono (by omega), rfl⟩
        · exact iteF ⟨st, sb, hst, hsb, P5a.mono (by omega), rfl⟩
    clear hst hsb P5a st sb
    rintro σ6 H6a ⟨st, sb, hst, hsb, P6a, rfl⟩
    have bigS : (20000 : Nat) ≤ sizeLine := by decide
    have hsl : ("/" : Str).length = 1 := by decide +kernel
    refine ⟨fun σ' H' => ∃ z : Str, z.length ≤ 14000 ∧ H' = H6a ∧ σ' = [some (.ref p), some (.int way), some (.str sz), some (.str st), some (.str sb), some (.str z)], ?_, ?_⟩
    · refine ⟨_, rfl, rfl, _, rfl, ?_⟩
      refine ite2 (fun _ => ?_) (fun _ => ?_)
      · exact ⟨_, rfl, _, rfl, _, _, rfl, rfl, by omega, _, by rw [Str.length_append]; omega, rfl, rfl⟩
      · have hc := cutS_length sz none (some 2)
        refine ⟨_, rfl, _, _, rfl, rfl, by omega, _, rfl, _, rfl, _, rfl, by omega, _, _, rfl, rfl, by rw [Str.length_append]; omega, _, rfl, _, _, rfl, rfl, by rw [Str.length_append, Str.length_append]; omega, _, by rw [Str.length_append, Str.length_append, Str.length_append]; omega, rfl, rfl⟩
    rintro σ7 H7a ⟨z, hz, rfl, rfl⟩
    refine ⟨_, rfl, (by show 3 ≤ sizeLine; decide), fun a ha => ⟨p, c, a, m + 600, _, rfl, P6a.same (AL.Same.new ha), by omega, SqL.of upd_same, (by show 0 < 3; decide), (by show 3 < 1000000000; decide), fun j x H8 hx P8 k8 => ?_⟩⟩
    have hx' : ∃ y : Str, x = .str y ∧ y.length ≤ 1 := by
      refine pick_of (P := fun x => ∃ y : Str, x = .str y ∧ y.length ≤ 1) (fun y hy => ?_) hx
      simp only [List.mem_cons, List.not_mem_nil, or_false] at hy
      rcases hy with rfl | rfl | rfl
      · exact ⟨_, rfl, by decide +kernel⟩
      · exact ⟨_, rfl, by decide +kernel⟩
      · exact ⟨_, rfl, by decide +kernel⟩
    obtain ⟨y, rfl, hy⟩ := hx'
    refine ⟨_, rfl, _, _, rfl, rfl, by omega, ?_⟩
    obtain ⟨ll, hll⟩ := S_of (y ++ z)
    rw [hll]
    have hlen : ll.length = y.length + z.length := by rw [← S_len, ← hll, Str.length_append]
    exact q ll H8 (by omega) (P8.mono (by omega))
abbrev st_law_bent : Stmt := top 26
theorem sc_law_bent : FnScope ["_law_pen_here", "_law_text", "_law_signs", "_law_at", "_law_sign"] ["_law_pen_here", "_law_text"] (defScope st_law_bent) := ⟨rfl, rfl, rfl, by decide +kernel, rfl, by decide +kernel, by decide +kernel⟩
theorem ok_law_bent (B : Blt mg)  {f_law_draw : Addr} {fd_law_draw : FuncData} (D_law_draw : DefAt K mg "_law_draw" st_law_draw ["_law_pen_here", "_law_many"] f_law_draw fd_law_draw) {f_law_pick : Addr} {fd_law_pick : FuncData} (D_law_pick : DefAt K mg "_law_pick" st_law_pick ["_law_pen_here", "_law_some"] f_law_pick fd_law_pick) {f_law_bent : Addr} {fd_law_bent : FuncData} (D_law_bent : DefAt K mg "_law_bent" st_law_bent ["_law_pen_here", "_law_text"] f_law_bent fd_law_bent) : FnOk P w K mg base CX0 3 f_law_bent fd_law_bent ["_law_pen_here", "_law_text"] spBent := by
  have OK_law_draw : FnOk P w K mg base CX0 1 f_law_draw fd_law_draw ["_law_pen_here", "_law_many"] spDraw := ok_law_draw B  D_law_draw
  have OK_law_pick : FnOk P w K mg base CX0 2 f_law_pick fd_law_pick ["_law_pen_here", "_law_some"] (spPick K) := ok_law_pick B  D_law_draw D_law_pick
  refine D_law_bent.F.ok sc_law_bent (fun vs H Q E h => ?_) (fun cdv A outer s H vs Q E hr h => ?_)
  · obtain ⟨p, c, m, l, rfl, _⟩ := h; rfl
  · have hu := hu_of hr
    refine ⟨_, (pss_cons (ps_set (i := 2) sc_law_bent.nd rfl (Or.inl rfl) pe_str)
    (Evl.pss_cut (ps_set (i := 3) sc_law_bent.nd rfl (Or.inl rfl) (pe_ifExp (pt_cmpR op_gt (pe_call OK_law_draw (hr.mono (by decide)) rfl D_law_draw.m D_law_draw.F.kp D_law_draw.b .nil pass0 (pa_cons (pv 0) (pa_cons pe_int pa_nil))) pe_int (nomark _)) (pe_call OK_law_draw (hr.mono (by decide)) rfl D_law_draw.m D_law_draw.F.kp D_law_draw.b .nil pass0 (pa_cons (pv 0) (pa_cons (pe_op op_add (pe_callB call_len_str (by rfl) B.len_ (by decide +kernel) (pa_cons (pv 1) pa_nil)) pe_int) pa_nil))) (pe_callB call_len_str (by rfl) B.len_ (by decide +kernel) (pa_cons (pv 1) pa_nil))))
    (pss_cons (ps_set (i := 4) sc_law_bent.nd rfl (Or.inl rfl) (pe_call OK_law_pick (hr.mono (by decide)) rfl D_law_pick.m D_law_pick.F.kp D_law_pick.b .nil pass0 (pa_cons (pv 0) (pa_cons (pe_lst (pa_cons pe_str (pa_cons (pe_ix ix_str (pv 2) (pe_call OK_law_draw (hr.mono (by decide)) rfl D_law_draw.m D_law_draw.F.kp D_law_draw.b .nil pass0 (pa_cons (pv 0) (pa_cons (pe_callB call_len_str (by rfl) B.len_ (by decide +kernel) (pa_cons (pv 2) pa_nil)) pa_nil))) (fun _ _ => rfl)) (pa_cons pe_str (pa_cons pe_str (pa_cons pe_str (pa_cons pe_str pa_nil))))))) pa_nil))))
    (pss_one (ps_ret (pe_op op_add_str (pe_op op_add_str (pe_slice sl_str (pv 1) po_none (po_some (pv 3))) (pv 4)) (pe_slice sl_str (pv 1) (po_some (pe_op op_add (pv 3) (pe_call OK_law_draw (hr.mono (by decide)) rfl D_law_draw.m D_law_draw.F.kp D_law_draw.b .nil pass0 (pa_cons (pv 0) (pa_cons pe_int pa_nil))))) po_none))))))), ?_⟩
    obtain ⟨p, c, m, l, rfl, P, hm, hl, q⟩ := h
    have hls : (S l).length ≤ sizeLine := by rw [S_len]; exact Nat.le_trans hl (by decide)
    refine ⟨fun σ' H' => ∃ n : Nat, n ≤ l.length ∧ Pen H' p c (m + 2) ∧ σ' = [some (.ref p), some (.str (S l)), some (.str " !#$&'()*+,-./0123456789:;<=>?@ABCXYZ[]^_abcexyz{|}~"), some (.int (n : Int)), none], ?_, ?_⟩
    · refine ⟨_, rfl, p, c, m, _, rfl, P, by omega, by decide, by decide, fun r H1 h0 h1 P1 k1 => ?_⟩
      refine ⟨_, _, rfl, rfl, _, rfl, ?_⟩
      refine ite2 (fun _ => ?_) (fun _ => ?_)
      · refine ⟨_, rfl, _, rfl, _, rfl, hls, _, _, rfl, rfl, p, c, m + 1, _, rfl, P1, by omega, (by rw [S_len]; omega), (by rw [S_len]; omega), fun r2 H2 h2 h3 P2 k2 => ?_⟩
        rw [S_len] at h3
        obtain ⟨n, rfl⟩ := Int.eq_ofNat_of_zero_le h2
        exact ⟨n, by omega, P2, rfl⟩
      · refine ⟨_, rfl, _, rfl, hls, l.length, Nat.le_refl _, P1.mono (by omega), ?_⟩
        rw [S_len]
        rfl
    rintro σ1 H1 ⟨n, hn, P1, rfl⟩
    have hSl : ((" !#$&'()*+,-./0123456789:;<=>?@ABCXYZ[]^_abcexyz{|}~" : Str)).cps.toList.length = 52 := by decide +kernel
    have hSG : ((" !#$&'()*+,-./0123456789:;<=>?@ABCXYZ[]^_abcexyz{|}~" : Str)).length = 52 := by decide +kernel
    generalize hsg : (" !#$&'()*+,-./0123456789:;<=>?@ABCXYZ[]^_abcexyz{|}~" : Str) = sg at hSl hSG
    have hsgs : sg.length ≤ sizeLine := by rw [hSG]; decide
    refine ⟨_, rfl, _, rfl, _, rfl, _, rfl, _, rfl, hsgs, p, c, m + 2, _, rfl, P1, by omega, (by rw [hSG]; decide), (by rw [hSG]; decide), fun r H2 h2 h3 P2 k2 => ?_⟩
    rw [hSG] at h3
    obtain ⟨r, rfl⟩ := Int.eq_ofNat_of_zero_le h2
    have hr : r < sg.cps.toList.length := by omega
    refine ⟨_, _, _, rfl, rfl, hsgs, atI_nat (List.getElem?_eq_getElem hr), (by show 6 ≤ sizeLine; decide), fun a ha => ?_⟩
    refine ⟨p, c, a, m + 3, _, rfl, P2.same (AL.Same.new ha), by omega, SqL.of upd_same, (by show 0 < 6; decide), (by show 6 < 1000000000; decide), fun j x H3 hx P3 k3 => ?_⟩
    have hx' : ∃ z : Str, x = .str z ∧ z.length ≤ 1 := by
      refine pick_of (P := fun x => ∃ z : Str, x = .str z ∧ z.length ≤ 1) (fun y hy => ?_) hx
      simp only [List.mem_cons, List.not_mem_nil, or_false] at hy
      rcases hy with rfl | rfl | rfl | rfl | rfl | rfl
      · exact ⟨_, rfl, by decide +kernel⟩
      · exact ⟨_, rfl, by show 1 ≤ 1; decide⟩
      · exact ⟨_, rfl, by decide +kernel⟩
      · exact ⟨_, rfl, by decide +kernel⟩
      · exact ⟨_, rfl, by decide +kernel⟩
      · exact ⟨_, rfl, by decide +kernel⟩
    obtain ⟨z, rfl, hz⟩ := hx'
    obtain ⟨zl, rfl⟩ := S_of z
    rw [S_len] at hz
    have e1 : cutS (S l) none (some ((n : Nat) : Int)) = S (l.take n) := cut_to l n
    refine ⟨_, rfl, _, rfl, _, rfl, _, rfl, hls, _, rfl, _, _, rfl, rfl, ?_, ?_⟩
    · rw [e1, S_len, S_len, List.length_take]; exact Nat.le_trans (by omega : _ ≤ 20001) (by decide)
    rw [e1, S_app]
    refine ⟨_, rfl, _, rfl, _, rfl, p, c, m + 4, _, rfl, P3, by omega, by decide, by decide, fun r2 H4 h4 h5 P4 k4 => ?_⟩
    obtain ⟨r2, rfl⟩ := Int.eq_ofNat_of_zero_le h4
    have e2 : cutS (S l) (some ((n : Int) + (r2 : Int))) none = S (l.drop (n + r2)) := cut_from l (n + r2)
    refine ⟨_, _, rfl, rfl, _, rfl, _, rfl, hls, _, _, rfl, rfl, ?_, ?_⟩
    · rw [e2, S_len, S_len, List.length_append, List.length_take, List.length_drop]; exact Nat.le_trans (by omega : _ ≤ 20001) (by decide)
    rw [e2, S_app]
    exact q _ H4 (by rw [List.length_append, List.length_append, List.length_take, List.length_drop]; omega) (P4.mono (by omega))
abbrev stlaw : Stmt := top 27
theorem sclaw : FnScope ["_law_script", "_law_pen_here", "_law_turn", "_law_text", "_law_bend", "_law_odd", "_law_told", "e"] ["_law_script"] (defScope stlaw) := ⟨rfl, rfl, rfl, by decide +kernel, rfl, by decide +kernel, by decide +kernel⟩
theorem oklaw (B : Blt mg) {BT TL CS fB fT : Addr} {fdB fdT : FuncData} (Es : Er K mg BT TL CS fB fT fdB fdT) {f_law_draw : Addr} {fd_law_draw : FuncData} (D_law_draw : DefAt K mg "_law_draw" st_law_draw ["_law_pen_here", "_law_many"] f_law_draw fd_law_draw) {f_law_pick : Addr} {fd_law_pick : FuncData} (D_law_pick : DefAt K mg "_law_pick" st_law_pick ["_law_pen_here", "_law_some"] f_law_pick fd_law_pick) {f_law_big : Addr} {fd_law_big : FuncData} (D_law_big : DefAt K mg "_law_big" st_law_big ["_law_pen_here", "_law_figures"] f_law_big fd_law_big) {f_law_begin : Addr} {fd_law_begin : FuncData} (D_law_begin : DefAt K mg "_law_begin" st_law_begin ["_law_pen_here"] f_law_begin fd_law_begin) {f_law_bent : Addr} {fd_law_bent : FuncData} (D_law_bent : DefAt K mg "_law_bent" st_law_bent ["_law_pen_here", "_law_text"] f_law_bent fd_law_bent) {f_law_digits_end : Addr} {fd_law_digits_end : FuncData} (D_law_digits_end : DefAt K mg "_law_digits_end" st_law_digits_end ["_law_text", "_law_at"] f_law_digits_end fd_law_digits_end) {f_law_gcd : Addr} {fd_law_gcd : FuncData} (D_law_gcd : DefAt K mg "_law_gcd" st_law_gcd ["_law_one", "_law_two"] f_law_gcd fd_law_gcd) {f_law_q : Addr} {fd_law_q : FuncData} (D_law_q : DefAt K mg "_law_q" st_law_q ["_law_top", "_law_bottom"] f_law_q fd_law_q) {f_law_due : Addr} {fd_law_due : FuncData} (D_law_due : DefAt K mg "_law_due" st_law_due ["_law_text"] f_law_due fd_law_due) {f_law_pen : Addr} {fd_law_pen : FuncData} (D_law_pen : DefAt K mg "_law_pen" st_law_pen ["_law_script"] f_law_pen fd_law_pen) {f_law_is_whole : Addr} {fd_law_is_whole : FuncData} (D_law_is_whole : DefAt K mg "_law_is_whole" st_law_is_whole ["_law_value"] f_law_is_whole fd_law_is_whole) {f_law_is_ratio : Addr} {fd_law_is_ratio : FuncData} (D_law_is_ratio : DefAt K mg "_law_is_ratio" st_law_is_ratio ["_law_value"] f_law_is_ratio fd_law_is_ratio) {flowest : Addr} {fdlowest : FuncData} (Dlowest : DefAt K mg "lowest" stlowest ["top", "bottom"] flowest fdlowest) {fdigits_end : Addr} {fddigits_end : FuncData} (Ddigits_end : DefAt K mg "digits_end" stdigits_end ["text", "start"] fdigits_end fddigits_end) {fwrong_column : Addr} {fdwrong_column : FuncData} (Dwrong_column : DefAt K mg "wrong_column" stwrong_column ["text"] fwrong_column fdwrong_column) {fratio_of : Addr} {fdratio_of : FuncData} (Dratio_of : DefAt K mg "ratio_of" stratio_of ["text"] fratio_of fdratio_of) {f_law_read : Addr} {fd_law_read : FuncData} (D_law_read : DefAt K mg "_law_read" st_law_read ["_law_value"] f_law_read fd_law_read) {flaw : Addr} {fdlaw : FuncData} (Dlaw : DefAt K mg "law" stlaw ["_law_script"] flaw fdlaw) : FnOk P w K mg base CX0 5 flaw fdlaw ["_law_script"] (spLaw K) := by
  have OK_law_begin : FnOk P w K mg base CX0 4 f_law_begin fd_law_begin ["_law_pen_here"] spBegin := ok_law_begin B  D_law_draw D_law_pick D_law_big D_law_begin
  have OK_law_bent : FnOk P w K mg base CX0 3 f_law_bent fd_law_bent ["_law_pen_here", "_law_text"] spBent := ok_law_bent B  D_law_draw D_law_pick D_law_bent
  have OK_law_due : FnOk P w K mg base CX0 3 f_law_due fd_law_due ["_law_text"] (spDue K) := ok_law_due B Es D_law_digits_end D_law_gcd D_law_q D_law_due
  have OK_law_pen : FnOk P w K mg base CX0 1 f_law_pen fd_law_pen ["_law_script"] (spPen K) := ok_law_pen B  D_law_pen
  have OK_law_read : FnOk P w K mg base CX0 4 f_law_read fd_law_read ["_law_value"] (spRead K) := ok_law_read B Es D_law_gcd D_law_is_whole D_law_is_ratio Dlowest Ddigits_end Dwrong_column Dratio_of D_law_read
  have OKratio_of : FnOk P w K mg base (L2.CX P w) 3 fratio_of fdratio_of ["text"] (spRatio K BT TL) := okratio_of B Es Dlowest Ddigits_end Dwrong_column Dratio_of
  refine Dlaw.F.ok sclaw (fun vs H Q E h => ?_) (fun cdv A outer s H vs Q E hr h => ?_)
  · obtain ⟨a, ns, rfl, _⟩ := h; rfl
  · have hu := hu_of hr
    refine ⟨_, (pss_cons (ps_set (i := 1) sclaw.nd rfl (Or.inl rfl) (pe_call OK_law_pen (hr.mono (by decide)) rfl D_law_pen.m D_law_pen.F.kp D_law_pen.b .nil pass0 (pa_cons (pv 0) pa_nil)))
    (pss_cons (ps_for PassesOwn.never rfl (pi_range1 rfl B.range_ (pa_cons pe_int pa_nil)) (pg_name (i := 2) sclaw.nd rfl (Or.inl rfl))
      (pss_cons (ps_set (i := 3) sclaw.nd rfl (Or.inl rfl) (pe_call OK_law_begin (hr.mono (by decide)) rfl D_law_begin.m D_law_begin.F.kp D_law_begin.b .nil pass0 (pa_cons (pv 1) pa_nil)))
    (pss_one (ps_for PassesOwn.never rfl (pi_range1 rfl B.range_ (pa_cons pe_int pa_nil)) (pg_name (i := 4) sclaw.nd rfl (Or.inl rfl))
      (pss_cons (ps_if (pt_cmpR (op_neD hr.units) (pe_call OK_law_read (hr.mono (by decide)) rfl D_law_read.m D_law_read.F.kp D_law_read.b .nil pass0 (pa_cons (pv 3) pa_nil)) (pe_call OK_law_due (hr.mono (by decide)) rfl D_law_due.m D_law_due.F.kp D_law_due.b .nil pass0 (pa_cons (pv 3) pa_nil)) (nomark _)) (pss_one (ps_ret pe_bl)) pss_nil)
    (pss_one (ps_set (i := 3) sclaw.nd rfl (Or.inl rfl) (pe_call OK_law_bent (hr.mono (by decide)) rfl D_law_bent.m D_law_bent.F.kp D_law_bent.b .nil pass0 (pa_cons (pv 1) (pa_cons (pv 3) pa_nil))))))))))
    (pss_cons (ps_for PassesOwn.never rfl (pi_list (pe_lst (pa_cons pe_non (pa_cons pe_int (pa_cons (pe_tup (pa_cons pe_int (pa_cons pe_int pa_nil))) (pa_cons (pe_lst (pa_cons pe_str pa_nil)) (pa_cons pe_bl pa_nil))))))) (pg_name (i := 5) sclaw.nd rfl (Or.inl rfl))
      (pss_cons (ps_tryN rfl rfl sclaw.nd takes0 (fun W pn xe tk _ => (pss_cons (ps_expr (pe_callS OKratio_of (hr.mono (by decide)) rfl Dratio_of.m Dratio_of.F.kp Dratio_of.b (fun σ => passAt tk σ) (pa_cons (pv 5) pa_nil)))
    (pss_one (ps_set (i := 6) sclaw.nd rfl (Or.inl rfl) pe_non)))) (Named.cons (i := 7) ⟨rfl, by decide, .inl Es.eB.m⟩ rfl rfl (fun a oe cls dd pn hz hf => (pss_one (ps_set (i := 6) sclaw.nd rfl (Or.inl rfl) (pe_tup (pa_cons (pe_xf Es.eB.xf (Es.eB.no _ (by decide +kernel)) hz hf (pv 7)) (pa_cons (pe_xf Es.eB.xf (Es.eB.no _ (by decide +kernel)) hz hf (pv 7)) pa_nil)))))) .nil))
    (pss_one (ps_if (PW.pt (pw_or (pt_cmpR (op_neD hr.units) (pv 6) (pe_tup (pa_cons pe_int (pa_cons pe_int pa_nil))) (nomark _)) (pw_or1 (pt_val (pe_callB call_isi (by rfl) B.isinstance_ (by decide +kernel) (pa_cons (pe_ix ix_tup (pv 6) pe_int (fun _ _ => rfl)) (pa_cons (pe_bltn (v := .ty "bool") (by rfl) B.bool_ PyProof.Rows.Boot.«bool» rfl) pa_nil))))))) (pss_one (ps_ret pe_bl)) pss_nil))))
    (pss_one (ps_ret pe_bl))))), ?_⟩
    obtain ⟨a, ns, rfl, hS, hN, q⟩ := h
    refine ⟨_, rfl, a, ns, rfl, hS, fun p c H1 hp hc hpc P0 s1 => ?_⟩
    refine ⟨_, rfl, by decide, by decide, for_range (lo := 0) (n := 3) (fun i σ H' => ∃ v3 v4 v5 v6 v7 v8 : Option V, σ = [some (.ref a), some (.ref p), v3, v4, v5, v6, v7, v8] ∧ Pen H' p c (2000 * i)) ⟨none, none, none, none, none, none, rfl, P0⟩ ?_ ?_⟩
    · rintro i σ H2 hi ⟨v3, v4, v5, v6, v7, v8, rfl, P⟩
      refine ⟨_, rfl, p, c, 2000 * i, rfl, P, by omega, fun l H3 hl P3 => ?_⟩
      refine ⟨_, rfl, by decide, by decide, for_range (lo := 0) (n := 4) (fun k σ H' => ∃ (l : List Nat) (v2 v4 v5 v6 v7 : Option V), l.length ≤ 15000 + k ∧ σ = [some (.ref a), some (.ref p), v2, some (.str (S l)), v4, v5, v6, v7] ∧ Pen H' p c (2000 * i + 1000 + 10 * k)) ⟨l, _, _, _, _, _, hl, rfl, P3⟩ ?_ ?_⟩
      · rintro k σ H4 hk ⟨l, v2, v4, v5, v6, v7, hl, rfl, P4⟩
        have hl' : l.length ≤ 15000 + k := hl
        refine ⟨_, rfl, l, rfl, by omega, fun t1 H5 s5 d5 => ⟨_, rfl, l, rfl, by omega, fun t2 H6 s6 d6 => ⟨resD (res l), resD (res l), dp_same s6 d5, d6, resD_ok _, resD_ok _, _, rfl, ?_⟩⟩⟩
        rw [SeqAt.eqv_refl _ (SeqAt.canLay_of_shaped (resD_ok _))]
        refine iteF ?_
        refine ⟨_, rfl, _, rfl, p, c, 2000 * i + 1000 + 10 * k, l, rfl, (P4.same s5).same s6, by omega, by omega, fun l' H7 hl7 P7 => ?_⟩
        exact ⟨l', _, _, _, _, _, by omega, rfl, P7.mono (by omega)⟩
      · rintro σ H4 ⟨l, v2, v4, v5, v6, v7, hl, rfl, P4⟩
        exact ⟨_, _, _, _, _, _, rfl, P4.mono (by omega)⟩
    · rintro σ H2 ⟨v3, v4, v5, v6, v7, v8, rfl, P⟩
      refine ⟨(by show 2 ≤ sizeLine; decide), fun t ht => ⟨(by show 1 ≤ sizeLine; decide), fun u hu => ⟨(by show 5 ≤ sizeLine; decide), fun M hM => ?_⟩⟩⟩
      have n1 := AL.Same.new (o := .lst [.str "1"]) hu
      have n2 := AL.Same.new (o := .lst [.non, .int 3, .ref t, .ref u, .bl true]) hM
      have et := n2 _ _ (n1 _ _ (upd_same (H := H2) (a := t) (o := .tup [.int 1, .int 2])))
      have eu := n2 _ _ (upd_same (H := upd H2 t (.tup [.int 1, .int 2])) (a := u) (o := .lst [.str "1"]))
      have eM := upd_same (H := upd (upd H2 t (.tup [.int 1, .int 2])) u (.lst [.str "1"])) (a := M) (o := .lst [.non, .int 3, .ref t, .ref u, .bl true])
      generalize hH3 : upd (upd (upd H2 t (.tup [.int 1, .int 2])) u (.lst [.str "1"])) M (.lst [.non, .int 3, .ref t, .ref u, .bl true]) = H3 at et eu eM ⊢
      refine ⟨M, rfl, ⟨_, SqL.of eM⟩, for_list (K := K) (a := M) (xs := [.non, .int 3, .ref t, .ref u, .bl true]) (fun i σ H' => Same H3 H' ∧ ∃ v1 v2 v3 v4 v5 v6 v7 v8 : Option V, σ = [v1, v2, v3, v4, v5, v6, v7, v8]) ⟨Same.refl _, _, _, _, _, _, _, _, _, rfl⟩ (fun i σ H' _ hh => SqL.of (hh.1 _ _ eM)) ?_ ?_⟩
      · rintro i x σ H4 hx ⟨s4, v1, v2, v3, v4, v5, v6, v7, v8, rfl⟩
        have hx' : ∃ u, TyX K H4 x u ∧ PySem.W.kitOne K u (.type "str") = some false := by
          have hm := List.mem_of_getElem? hx
          simp only [List.mem_cons, List.not_mem_nil, or_false] at hm
          rcases hm with rfl | rfl | rfl | rfl | rfl
          · exact ⟨_, TyX.base .non, rfl⟩
          · exact ⟨_, TyX.base (.int _), rfl⟩
          · exact ⟨_, TyX.base (.tup (s4 _ _ et)), rfl⟩
          · exact ⟨_, TyX.base (.lst (s4 _ _ eu)), rfl⟩
          · exact ⟨_, TyX.base (.bl _), rfl⟩
        obtain ⟨ux, tx, ku⟩ := hx'
        refine ⟨_, rfl, _, rfl, .inr ⟨ux, tx, ku, fun dx H5 hdx s5 => ?_⟩⟩
        have s6 := s5.trans (AL.Same.new (o := .xd [("column", .int 0), ("line", .int 0)]) hdx)
        have hd := upd_same (H := H5) (a := dx) (o := .xd [("column", .int 0), ("line", .int 0)])
        generalize hH6 : upd H5 dx (.xd [("column", .int 0), ("line", .int 0)]) = H6 at s6 hd ⊢
        refine ⟨true, Es.xBB, fun _ ea hea => ?_, fun z => by cases z⟩
        refine ⟨_, rfl, rfl, rfl, dx, _, .int 0, rfl, hd, (by kernel_rfl), _, rfl, rfl, rfl, dx, _, .int 0, rfl, hd, (by kernel_rfl), (by show 2 ≤ sizeLine; decide), fun t1 ht1 => ?_⟩
        have m1 := AL.Same.new (o := .tup [.int 0, .int 0]) ht1
        have e1 := upd_same (H := H6) (a := t1) (o := .tup [.int 0, .int 0])
        refine ⟨_, rfl, (by show 2 ≤ sizeLine; decide), fun t2 ht2 => ?_⟩
        have m2 := AL.Same.new (o := .tup [.int 0, .int 0]) ht2
        refine ⟨.tuple [.int 0, .int 0], .tuple [.int 0, .int 0], .tup (SqT.of (m2 _ _ e1)) (.cons (.int _) (.cons (.int _) .nil)), .tup (SqT.of upd_same) (.cons (.int _) (.cons (.int _) .nil)), by decide +kernel, by decide +kernel, _, rfl, ?_⟩
        rw [SeqAt.eqv_refl _ (SeqAt.canLay_of_shaped (by decide +kernel))]
        refine iteF ?_
        refine ⟨_, rfl, t1, _, _, _, rfl, rfl, SqT.of (m2 _ _ e1), rfl, _, _, _, _, _, rfl, ClsV.ty _, TyX.base (.int _), rfl, false, rfl, ?_⟩
        refine iteF ?_
        exact ⟨((s4.trans s6).trans m1).trans m2, _, _, _, _, _, _, _, _, rfl⟩
      · rintro σ H4 _
        exact q H4
end
end AL
set_option Elab.async false
set_option maxRecDepth 100000
namespace AL
open PySem L2
theorem all_mk {l : PySem.W.OpenLaw} {w : World} {K : PySem.W.Frag} {h : Heap} {mg : Str → Option Value} {f_law_pen f_law_draw f_law_pick f_law_big f_law_gcd f_law_q f_law_is_whole f_law_is_ratio f_law_digits_end flowest fdigits_end fwrong_column fratio_of f_law_due f_law_read f_law_begin f_law_bent flaw CBadText fIBadText CTooLarge fITooLarge CS fa : Addr} (X : K.In h) (G : h.Ns mainGlobals mg) (hfa : mg "law" = some (.ref fa))
    {oc_law_pen kV_law_pen dc_law_pen pm_law_pen cd_law_pen ct_law_pen : Value} {od_law_pen an_law_pen : Option Addr} {sl_law_pen : Array (Option Value)}
    {oc_law_draw kV_law_draw dc_law_draw pm_law_draw cd_law_draw ct_law_draw : Value} {od_law_draw an_law_draw : Option Addr} {sl_law_draw : Array (Option Value)}
    {oc_law_pick kV_law_pick dc_law_pick pm_law_pick cd_law_pick ct_law_pick : Value} {od_law_pick an_law_pick : Option Addr} {sl_law_pick : Array (Option Value)}
    {oc_law_big kV_law_big dc_law_big pm_law_big cd_law_big ct_law_big : Value} {od_law_big an_law_big : Option Addr} {sl_law_big : Array (Option Value)}
    {oc_law_gcd kV_law_gcd dc_law_gcd pm_law_gcd cd_law_gcd ct_law_gcd : Value} {od_law_gcd an_law_gcd : Option Addr} {sl_law_gcd : Array (Option Value)}
    {oc_law_q kV_law_q dc_law_q pm_law_q cd_law_q ct_law_q : Value} {od_law_q an_law_q : Option Addr} {sl_law_q : Array (Option Value)}
    {oc_law_is_whole kV_law_is_whole dc_law_is_whole pm_law_is_whole cd_law_is_whole ct_law_is_whole : Value} {od_law_is_whole an_law_is_whole : Option Addr} {sl_law_is_whole : Array (Option Value)}
    {oc_law_is_ratio kV_law_is_ratio dc_law_is_ratio pm_law_is_ratio cd_law_is_ratio ct_law_is_ratio : Value} {od_law_is_ratio an_law_is_ratio : Option Addr} {sl_law_is_ratio : Array (Option Value)}
    {oc_law_digits_end kV_law_digits_end dc_law_digits_end pm_law_digits_end cd_law_digits_end ct_law_digits_end : Value} {od_law_digits_end an_law_digits_end : Option Addr} {sl_law_digits_end : Array (Option Value)}
    {oclowest kVlowest dclowest pmlowest cdlowest ctlowest : Value} {odlowest anlowest : Option Addr} {sllowest : Array (Option Value)}
    {ocdigits_end kVdigits_end dcdigits_end pmdigits_end cddigits_end ctdigits_end : Value} {oddigits_end andigits_end : Option Addr} {sldigits_end : Array (Option Value)}
    {ocwrong_column kVwrong_column dcwrong_column pmwrong_column cdwrong_column ctwrong_column : Value} {odwrong_column anwrong_column : Option Addr} {slwrong_column : Array (Option Value)}
    {ocratio_of kVratio_of dcratio_of pmratio_of cdratio_of ctratio_of : Value} {odratio_of anratio_of : Option Addr} {slratio_of : Array (Option Value)}
    {oc_law_due kV_law_due dc_law_due pm_law_due cd_law_due ct_law_due : Value} {od_law_due an_law_due : Option Addr} {sl_law_due : Array (Option Value)}
    {oc_law_read kV_law_read dc_law_read pm_law_read cd_law_read ct_law_read : Value} {od_law_read an_law_read : Option Addr} {sl_law_read : Array (Option Value)}
    {oc_law_begin kV_law_begin dc_law_begin pm_law_begin cd_law_begin ct_law_begin : Value} {od_law_begin an_law_begin : Option Addr} {sl_law_begin : Array (Option Value)}
    {oc_law_bent kV_law_bent dc_law_bent pm_law_bent cd_law_bent ct_law_bent : Value} {od_law_bent an_law_bent : Option Addr} {sl_law_bent : Array (Option Value)}
    {oclaw kVlaw dclaw pmlaw cdlaw ctlaw : Value} {odlaw anlaw : Option Addr} {sllaw : Array (Option Value)}
    {nmBadText qnBadText : Str} {NBadText : Addr} {bsBadText bmBadText : List Value} {snBadText : List Str} {subBadText : List Value} {abBadText : Bool} {colBadText : Option Bool} {ddBadText : Option Addr} {m0BadText m1BadText m2BadText m3BadText m5BadText : Option Value}
    {ocIBadText kVIBadText dcIBadText pmIBadText cdIBadText ctIBadText : Value} {odIBadText anIBadText : Option Addr} {slIBadText : Array (Option Value)}
    {nmTooLarge qnTooLarge : Str} {NTooLarge : Addr} {bsTooLarge bmTooLarge : List Value} {snTooLarge : List Str} {subTooLarge : List Value} {abTooLarge : Bool} {colTooLarge : Option Bool} {ddTooLarge : Option Addr} {m0TooLarge m1TooLarge m2TooLarge m3TooLarge m5TooLarge : Option Value}
    {ocITooLarge kVITooLarge dcITooLarge pmITooLarge cdITooLarge ctITooLarge : Value} {odITooLarge anITooLarge : Option Addr} {slITooLarge : Array (Option Value)}
    {tkD tkM : Tok}
    (a_law_pen : PySem.W.nsIn K mainGlobals "_law_pen" = some (some (.ref f_law_pen)))
    (l_law_pen : K.lookup f_law_pen = some ⟨oc_law_pen, od_law_pen, .func (PySem.W.fnOf "_law_pen" "_law_pen" (defArgs st_law_pen) (defBody st_law_pen) (defScope st_law_pen) .none kV_law_pen dc_law_pen pm_law_pen an_law_pen cd_law_pen ct_law_pen), sl_law_pen⟩)
    (c_law_pen : PySem.W.codeIn K cd_law_pen "_law_pen" = true)
    (k_law_pen : PySem.W.keepIn K (.ref f_law_pen) = true)
    (a_law_draw : PySem.W.nsIn K mainGlobals "_law_draw" = some (some (.ref f_law_draw)))
    (l_law_draw : K.lookup f_law_draw = some ⟨oc_law_draw, od_law_draw, .func (PySem.W.fnOf "_law_draw" "_law_draw" (defArgs st_law_draw) (defBody st_law_draw) (defScope st_law_draw) .none kV_law_draw dc_law_draw pm_law_draw an_law_draw cd_law_draw ct_law_draw), sl_law_draw⟩)
    (c_law_draw : PySem.W.codeIn K cd_law_draw "_law_draw" = true)
    (k_law_draw : PySem.W.keepIn K (.ref f_law_draw) = true)
    (a_law_pick : PySem.W.nsIn K mainGlobals "_law_pick" = some (some (.ref f_law_pick)))
    (l_law_pick : K.lookup f_law_pick = some ⟨oc_law_pick, od_law_pick, .func (PySem.W.fnOf "_law_pick" "_law_pick" (defArgs st_law_pick) (defBody st_law_pick) (defScope st_law_pick) .none kV_law_pick dc_law_pick pm_law_pick an_law_pick cd_law_pick ct_law_pick), sl_law_pick⟩)
    (c_law_pick : PySem.W.codeIn K cd_law_pick "_law_pick" = true)
    (k_law_pick : PySem.W.keepIn K (.ref f_law_pick) = true)
    (a_law_big : PySem.W.nsIn K mainGlobals "_law_big" = some (some (.ref f_law_big)))
    (l_law_big : K.lookup f_law_big = some ⟨oc_law_big, od_law_big, .func (PySem.W.fnOf "_law_big" "_law_big" (defArgs st_law_big) (defBody st_law_big) (defScope st_law_big) .none kV_law_big dc_law_big pm_law_big an_law_big cd_law_big ct_law_big), sl_law_big⟩)
    (c_law_big : PySem.W.codeIn K cd_law_big "_law_big" = true)
    (k_law_big : PySem.W.keepIn K (.ref f_law_big) = true)
    (a_law_gcd : PySem.W.nsIn K mainGlobals "_law_gcd" = some (some (.ref f_law_gcd)))
    (l_law_gcd : K.lookup f_law_gcd = some ⟨oc_law_gcd, od_law_gcd, .func (PySem.W.fnOf "_law_gcd" "_law_gcd" (defArgs st_law_gcd) (defBody st_law_gcd) (defScope st_law_gcd) .none kV_law_gcd dc_law_gcd pm_law_gcd an_law_gcd cd_law_gcd ct_law_gcd), sl_law_gcd⟩)
    (c_law_gcd : PySem.W.codeIn K cd_law_gcd "_law_gcd" = true)
    (k_law_gcd : PySem.W.keepIn K (.ref f_law_gcd) = true)
    (a_law_q : PySem.W.nsIn K mainGlobals "_law_q" = some (some (.ref f_law_q)))
    (l_law_q : K.lookup f_law_q = some ⟨oc_law_q, od_law_q, .func (PySem.W.fnOf "_law_q" "_law_q" (defArgs st_law_q) (defBody st_law_q) (defScope st_law_q) .none kV_law_q dc_law_q pm_law_q an_law_q cd_law_q ct_law_q), sl_law_q⟩)
    (c_law_q : PySem.W.codeIn K cd_law_q "_law_q" = true)
    (k_law_q : PySem.W.keepIn K (.ref f_law_q) = true)
    (a_law_is_whole : PySem.W.nsIn K mainGlobals "_law_is_whole" = some (some (.ref f_law_is_whole)))
    (l_law_is_whole : K.lookup f_law_is_whole = some ⟨oc_law_is_whole, od_law_is_whole, .func (PySem.W.fnOf "_law_is_whole" "_law_is_whole" (defArgs st_law_is_whole) (defBody st_law_is_whole) (defScope st_law_is_whole) .none kV_law_is_whole dc_law_is_whole pm_law_is_whole an_law_is_whole cd_law_is_whole ct_law_is_whole), sl_law_is_whole⟩)
    (c_law_is_whole : PySem.W.codeIn K cd_law_is_whole "_law_is_whole" = true)
    (k_law_is_whole : PySem.W.keepIn K (.ref f_law_is_whole) = true)
    (a_law_is_ratio : PySem.W.nsIn K mainGlobals "_law_is_ratio" = some (some (.ref f_law_is_ratio)))
    (l_law_is_ratio : K.lookup f_law_is_ratio = some ⟨oc_law_is_ratio, od_law_is_ratio, .func (PySem.W.fnOf "_law_is_ratio" "_law_is_ratio" (defArgs st_law_is_ratio) (defBody st_law_is_ratio) (defScope st_law_is_ratio) .none kV_law_is_ratio dc_law_is_ratio pm_law_is_ratio an_law_is_ratio cd_law_is_ratio ct_law_is_ratio), sl_law_is_ratio⟩)
    (c_law_is_ratio : PySem.W.codeIn K cd_law_is_ratio "_law_is_ratio" = true)
    (k_law_is_ratio : PySem.W.keepIn K (.ref f_law_is_ratio) = true)
    (a_law_digits_end : PySem.W.nsIn K mainGlobals "_law_digits_end" = some (some (.ref f_law_digits_end)))
    (l_law_digits_end : K.lookup f_law_digits_end = some ⟨oc_law_digits_end, od_law_digits_end, .func (PySem.W.fnOf "_law_digits_end" "_law_digits_end" (defArgs st_law_digits_end) (defBody st_law_digits_end) (defScope st_law_digits_end) .none kV_law_digits_end dc_law_digits_end pm_law_digits_end an_law_digits_end cd_law_digits_end ct_law_digits_end), sl_law_digits_end⟩)
    (c_law_digits_end : PySem.W.codeIn K cd_law_digits_end "_law_digits_end" = true)
    (k_law_digits_end : PySem.W.keepIn K (.ref f_law_digits_end) = true)
    (alowest : PySem.W.nsIn K mainGlobals "lowest" = some (some (.ref flowest)))
    (llowest : K.lookup flowest = some ⟨oclowest, odlowest, .func (PySem.W.fnOf "lowest" "lowest" (defArgs stlowest) (defBody stlowest) (defScope stlowest) .none kVlowest dclowest pmlowest anlowest cdlowest ctlowest), sllowest⟩)
    (clowest : PySem.W.codeIn K cdlowest "lowest" = true)
    (klowest : PySem.W.keepIn K (.ref flowest) = true)
    (adigits_end : PySem.W.nsIn K mainGlobals "digits_end" = some (some (.ref fdigits_end)))
    (ldigits_end : K.lookup fdigits_end = some ⟨ocdigits_end, oddigits_end, .func (PySem.W.fnOf "digits_end" "digits_end" (defArgs stdigits_end) (defBody stdigits_end) (defScope stdigits_end) .none kVdigits_end dcdigits_end pmdigits_end andigits_end cddigits_end ctdigits_end), sldigits_end⟩)
    (cdigits_end : PySem.W.codeIn K cddigits_end "digits_end" = true)
    (kdigits_end : PySem.W.keepIn K (.ref fdigits_end) = true)
    (awrong_column : PySem.W.nsIn K mainGlobals "wrong_column" = some (some (.ref fwrong_column)))
    (lwrong_column : K.lookup fwrong_column = some ⟨ocwrong_column, odwrong_column, .func (PySem.W.fnOf "wrong_column" "wrong_column" (defArgs stwrong_column) (defBody stwrong_column) (defScope stwrong_column) .none kVwrong_column dcwrong_column pmwrong_column anwrong_column cdwrong_column ctwrong_column), slwrong_column⟩)
    (cwrong_column : PySem.W.codeIn K cdwrong_column "wrong_column" = true)
    (kwrong_column : PySem.W.keepIn K (.ref fwrong_column) = true)
    (aratio_of : PySem.W.nsIn K mainGlobals "ratio_of" = some (some (.ref fratio_of)))
    (lratio_of : K.lookup fratio_of = some ⟨ocratio_of, odratio_of, .func (PySem.W.fnOf "ratio_of" "ratio_of" (defArgs stratio_of) (defBody stratio_of) (defScope stratio_of) .none kVratio_of dcratio_of pmratio_of anratio_of cdratio_of ctratio_of), slratio_of⟩)
    (cratio_of : PySem.W.codeIn K cdratio_of "ratio_of" = true)
    (kratio_of : PySem.W.keepIn K (.ref fratio_of) = true)
    (a_law_due : PySem.W.nsIn K mainGlobals "_law_due" = some (some (.ref f_law_due)))
    (l_law_due : K.lookup f_law_due = some ⟨oc_law_due, od_law_due, .func (PySem.W.fnOf "_law_due" "_law_due" (defArgs st_law_due) (defBody st_law_due) (defScope st_law_due) .none kV_law_due dc_law_due pm_law_due an_law_due cd_law_due ct_law_due), sl_law_due⟩)
    (c_law_due : PySem.W.codeIn K cd_law_due "_law_due" = true)
    (k_law_due : PySem.W.keepIn K (.ref f_law_due) = true)
    (a_law_read : PySem.W.nsIn K mainGlobals "_law_read" = some (some (.ref f_law_read)))
    (l_law_read : K.lookup f_law_read = some ⟨oc_law_read, od_law_read, .func (PySem.W.fnOf "_law_read" "_law_read" (defArgs st_law_read) (defBody st_law_read) (defScope st_law_read) .none kV_law_read dc_law_read pm_law_read an_law_read cd_law_read ct_law_read), sl_law_read⟩)
    (c_law_read : PySem.W.codeIn K cd_law_read "_law_read" = true)
    (k_law_read : PySem.W.keepIn K (.ref f_law_read) = true)
    (a_law_begin : PySem.W.nsIn K mainGlobals "_law_begin" = some (some (.ref f_law_begin)))
    (l_law_begin : K.lookup f_law_begin = some ⟨oc_law_begin, od_law_begin, .func (PySem.W.fnOf "_law_begin" "_law_begin" (defArgs st_law_begin) (defBody st_law_begin) (defScope st_law_begin) .none kV_law_begin dc_law_begin pm_law_begin an_law_begin cd_law_begin ct_law_begin), sl_law_begin⟩)
    (c_law_begin : PySem.W.codeIn K cd_law_begin "_law_begin" = true)
    (k_law_begin : PySem.W.keepIn K (.ref f_law_begin) = true)
    (a_law_bent : PySem.W.nsIn K mainGlobals "_law_bent" = some (some (.ref f_law_bent)))
    (l_law_bent : K.lookup f_law_bent = some ⟨oc_law_bent, od_law_bent, .func (PySem.W.fnOf "_law_bent" "_law_bent" (defArgs st_law_bent) (defBody st_law_bent) (defScope st_law_bent) .none kV_law_bent dc_law_bent pm_law_bent an_law_bent cd_law_bent ct_law_bent), sl_law_bent⟩)
    (c_law_bent : PySem.W.codeIn K cd_law_bent "_law_bent" = true)
    (k_law_bent : PySem.W.keepIn K (.ref f_law_bent) = true)
    (alaw : PySem.W.nsIn K mainGlobals "law" = some (some (.ref flaw)))
    (llaw : K.lookup flaw = some ⟨oclaw, odlaw, .func (PySem.W.fnOf "law" "law" (defArgs stlaw) (defBody stlaw) (defScope stlaw) .none kVlaw dclaw pmlaw anlaw cdlaw ctlaw), sllaw⟩)
    (claw : PySem.W.codeIn K cdlaw "law" = true)
    (klaw : PySem.W.keepIn K (.ref flaw) = true)
    (ABadText : PySem.W.nsIn K mainGlobals "BadText" = some (some (.ref CBadText)))
    (RBadText : K.lookup CBadText = some (excClassObj nmBadText qnBadText CBadText NBadText bsBadText bmBadText true snBadText subBadText abBadText colBadText ddBadText m0BadText m1BadText m2BadText m3BadText m5BadText "ValueError.__new__"))
    (MBadText : PySem.HandSPX.refsVE bmBadText = true)
    (BBadText : errB K CBadText ["line", "column"] = true)
    (aIBadText : PySem.W.findIn K (.ref CBadText) "__init__" = some (some (.ref fIBadText)))
    (lIBadText : K.lookup fIBadText = some ⟨ocIBadText, odIBadText, .func (PySem.W.fnOf "__init__" "BadText.__init__" (defArgs si_BadText) (defBody si_BadText) (defScope si_BadText) .none kVIBadText dcIBadText pmIBadText anIBadText cdIBadText ctIBadText), slIBadText⟩)
    (cIBadText : PySem.W.codeIn K cdIBadText "BadText.__init__" = true)
    (kIBadText : PySem.W.keepIn K (.ref fIBadText) = true)
    (tBadText : PySem.W.typeIn K (.ref fIBadText) = some (.type "function"))
    (ATooLarge : PySem.W.nsIn K mainGlobals "TooLarge" = some (some (.ref CTooLarge)))
    (RTooLarge : K.lookup CTooLarge = some (excClassObj nmTooLarge qnTooLarge CTooLarge NTooLarge bsTooLarge bmTooLarge true snTooLarge subTooLarge abTooLarge colTooLarge ddTooLarge m0TooLarge m1TooLarge m2TooLarge m3TooLarge m5TooLarge "ValueError.__new__"))
    (MTooLarge : PySem.HandSPX.refsVE bmTooLarge = true)
    (BTooLarge : errB K CTooLarge ["what", "number", "limit"] = true)
    (aITooLarge : PySem.W.findIn K (.ref CTooLarge) "__init__" = some (some (.ref fITooLarge)))
    (lITooLarge : K.lookup fITooLarge = some ⟨ocITooLarge, odITooLarge, .func (PySem.W.fnOf "__init__" "TooLarge.__init__" (defArgs si_TooLarge) (defBody si_TooLarge) (defScope si_TooLarge) .none kVITooLarge dcITooLarge pmITooLarge anITooLarge cdITooLarge ctITooLarge), slITooLarge⟩)
    (cITooLarge : PySem.W.codeIn K cdITooLarge "TooLarge.__init__" = true)
    (kITooLarge : PySem.W.keepIn K (.ref fITooLarge) = true)
    (tTooLarge : PySem.W.typeIn K (.ref fITooLarge) = some (.type "function"))
    (AS : PySem.W.nsIn K mainGlobals "ScaleError" = some (some (.ref CS)))
    (NV : PySem.W.nsIn K mainGlobals "ValueError" = some none)
    (kBS : PySem.W.kitOne K (.ref CBadText) (.ref CS) = some true)
    (kBV : PySem.W.kitOne K (.ref CBadText) (.type "ValueError") = some true)
    (kBT : PySem.W.kitOne K (.ref CBadText) (.ref CTooLarge) = some false)
    (xBB : PySem.W.exmOne K (.ref CBadText) (.ref CBadText) = some true)
    (xTB : PySem.W.exmOne K (.ref CTooLarge) (.ref CBadText) = some false)
    (xTT : PySem.W.exmOne K (.ref CTooLarge) (.ref CTooLarge) = some true)
    (GG : PySem.W.nsIn K mainGlobals "gcd" = some (some (.builtin "math.gcd")))
    (GD : PySem.W.nsIn K mainGlobals "DIGITS" = some (some (.str "0123456789" tkD)))
    (GM : PySem.W.nsIn K mainGlobals "MOST_DIGITS" = some (some (.int 4000 tkM)))
    (ND : digB K = true)
    (BT0 : bltB K = true) :
    ∃ fd : FuncData, (∀ (s : Shared) (v : Value), BindsTo s fd ⟨[v], []⟩ [("_law_script", v)]) ∧ ∀ base : Heap, K.In base → base.Ns mainGlobals mg → FnG l.prog w K mg base CX0 5 fa fd ["_law_script"] (spLaw K) := by
  have e := hfa.symm.trans (PySem.W.mg_of X G alaw)
  cases e
  have F_law_pen := fun_mk (st := st_law_pen) l_law_pen c_law_pen k_law_pen
  have D_law_pen : DefAt K mg "_law_pen" st_law_pen ["_law_script"] f_law_pen _ := ⟨F_law_pen, PySem.W.mg_of X G a_law_pen, F_law_pen.binds (ps := ["_law_script"]) fun _ _ _ _ _ _ us hl => match us, hl with | [_], _ => rfl⟩
  have F_law_draw := fun_mk (st := st_law_draw) l_law_draw c_law_draw k_law_draw
  have D_law_draw : DefAt K mg "_law_draw" st_law_draw ["_law_pen_here", "_law_many"] f_law_draw _ := ⟨F_law_draw, PySem.W.mg_of X G a_law_draw, F_law_draw.binds (ps := ["_law_pen_here", "_law_many"]) fun _ _ _ _ _ _ us hl => match us, hl with | [_, _], _ => rfl⟩
  have F_law_pick := fun_mk (st := st_law_pick) l_law_pick c_law_pick k_law_pick
  have D_law_pick : DefAt K mg "_law_pick" st_law_pick ["_law_pen_here", "_law_some"] f_law_pick _ := ⟨F_law_pick, PySem.W.mg_of X G a_law_pick, F_law_pick.binds (ps := ["_law_pen_here", "_law_some"]) fun _ _ _ _ _ _ us hl => match us, hl with | [_, _], _ => rfl⟩
  have F_law_big := fun_mk (st := st_law_big) l_law_big c_law_big k_law_big
  have D_law_big : DefAt K mg "_law_big" st_law_big ["_law_pen_here", "_law_figures"] f_law_big _ := ⟨F_law_big, PySem.W.mg_of X G a_law_big, F_law_big.binds (ps := ["_law_pen_here", "_law_figures"]) fun _ _ _ _ _ _ us hl => match us, hl with | [_, _], _ => rfl⟩
  have F_law_gcd := fun_mk (st := st_law_gcd) l_law_gcd c_law_gcd k_law_gcd
  have D_law_gcd : DefAt K mg "_law_gcd" st_law_gcd ["_law_one", "_law_two"] f_law_gcd _ := ⟨F_law_gcd, PySem.W.mg_of X G a_law_gcd, F_law_gcd.binds (ps := ["_law_one", "_law_two"]) fun _ _ _ _ _ _ us hl => match us, hl with | [_, _], _ => rfl⟩
  have F_law_q := fun_mk (st := st_law_q) l_law_q c_law_q k_law_q
  have D_law_q : DefAt K mg "_law_q" st_law_q ["_law_top", "_law_bottom"] f_law_q _ := ⟨F_law_q, PySem.W.mg_of X G a_law_q, F_law_q.binds (ps := ["_law_top", "_law_bottom"]) fun _ _ _ _ _ _ us hl => match us, hl with | [_, _], _ => rfl⟩
  have F_law_is_whole := fun_mk (st := st_law_is_whole) l_law_is_whole c_law_is_whole k_law_is_whole
  have D_law_is_whole : DefAt K mg "_law_is_whole" st_law_is_whole ["_law_value"] f_law_is_whole _ := ⟨F_law_is_whole, PySem.W.mg_of X G a_law_is_whole, F_law_is_whole.binds (ps := ["_law_value"]) fun _ _ _ _ _ _ us hl => match us, hl with | [_], _ => rfl⟩
  have F_law_is_ratio := fun_mk (st := st_law_is_ratio) l_law_is_ratio c_law_is_ratio k_law_is_ratio
  have D_law_is_ratio : DefAt K mg "_law_is_ratio" st_law_is_ratio ["_law_value"] f_law_is_ratio _ := ⟨F_law_is_ratio, PySem.W.mg_of X G a_law_is_ratio, F_law_is_ratio.binds (ps := ["_law_value"]) fun _ _ _ _ _ _ us hl => match us, hl with | [_], _ => rfl⟩
  have F_law_digits_end := fun_mk (st := st_law_digits_end) l_law_digits_end c_law_digits_end k_law_digits_end
  have D_law_digits_end : DefAt K mg "_law_digits_end" st_law_digits_end ["_law_text", "_law_at"] f_law_digits_end _ := ⟨F_law_digits_end, PySem.W.mg_of X G a_law_digits_end, F_law_digits_end.binds (ps := ["_law_text", "_law_at"]) fun _ _ _ _ _ _ us hl => match us, hl with | [_, _], _ => rfl⟩
  have Flowest := fun_mk (st := stlowest) llowest clowest klowest
  have Dlowest : DefAt K mg "lowest" stlowest ["top", "bottom"] flowest _ := ⟨Flowest, PySem.W.mg_of X G alowest, Flowest.binds (ps := ["top", "bottom"]) fun _ _ _ _ _ _ us hl => match us, hl with | [_, _], _ => rfl⟩
  have Fdigits_end := fun_mk (st := stdigits_end) ldigits_end cdigits_end kdigits_end
  have Ddigits_end : DefAt K mg "digits_end" stdigits_end ["text", "start"] fdigits_end _ := ⟨Fdigits_end, PySem.W.mg_of X G adigits_end, Fdigits_end.binds (ps := ["text", "start"]) fun _ _ _ _ _ _ us hl => match us, hl with | [_, _], _ => rfl⟩
  have Fwrong_column := fun_mk (st := stwrong_column) lwrong_column cwrong_column kwrong_column
  have Dwrong_column : DefAt K mg "wrong_column" stwrong_column ["text"] fwrong_column _ := ⟨Fwrong_column, PySem.W.mg_of X G awrong_column, Fwrong_column.binds (ps := ["text"]) fun _ _ _ _ _ _ us hl => match us, hl with | [_], _ => rfl⟩
  have Fratio_of := fun_mk (st := stratio_of) lratio_of cratio_of kratio_of
  have Dratio_of : DefAt K mg "ratio_of" stratio_of ["text"] fratio_of _ := ⟨Fratio_of, PySem.W.mg_of X G aratio_of, Fratio_of.binds (ps := ["text"]) fun _ _ _ _ _ _ us hl => match us, hl with | [_], _ => rfl⟩
  have F_law_due := fun_mk (st := st_law_due) l_law_due c_law_due k_law_due
  have D_law_due : DefAt K mg "_law_due" st_law_due ["_law_text"] f_law_due _ := ⟨F_law_due, PySem.W.mg_of X G a_law_due, F_law_due.binds (ps := ["_law_text"]) fun _ _ _ _ _ _ us hl => match us, hl with | [_], _ => rfl⟩
  have F_law_read := fun_mk (st := st_law_read) l_law_read c_law_read k_law_read
  have D_law_read : DefAt K mg "_law_read" st_law_read ["_law_value"] f_law_read _ := ⟨F_law_read, PySem.W.mg_of X G a_law_read, F_law_read.binds (ps := ["_law_value"]) fun _ _ _ _ _ _ us hl => match us, hl with | [_], _ => rfl⟩
  have F_law_begin := fun_mk (st := st_law_begin) l_law_begin c_law_begin k_law_begin
  have D_law_begin : DefAt K mg "_law_begin" st_law_begin ["_law_pen_here"] f_law_begin _ := ⟨F_law_begin, PySem.W.mg_of X G a_law_begin, F_law_begin.binds (ps := ["_law_pen_here"]) fun _ _ _ _ _ _ us hl => match us, hl with | [_], _ => rfl⟩
  have F_law_bent := fun_mk (st := st_law_bent) l_law_bent c_law_bent k_law_bent
  have D_law_bent : DefAt K mg "_law_bent" st_law_bent ["_law_pen_here", "_law_text"] f_law_bent _ := ⟨F_law_bent, PySem.W.mg_of X G a_law_bent, F_law_bent.binds (ps := ["_law_pen_here", "_law_text"]) fun _ _ _ _ _ _ us hl => match us, hl with | [_, _], _ => rfl⟩
  have Flaw := fun_mk (st := stlaw) llaw claw klaw
  have Dlaw : DefAt K mg "law" stlaw ["_law_script"] flaw _ := ⟨Flaw, PySem.W.mg_of X G alaw, Flaw.binds (ps := ["_law_script"]) fun _ _ _ _ _ _ us hl => match us, hl with | [_], _ => rfl⟩
  have EBadText := errT_of RBadText MBadText (PySem.W.mg_of X G ABadText) BBadText
  have FIBadText := fun_mk (st := si_BadText) lIBadText cIBadText kIBadText
  have IBadText : IniT K "BadText.__init__" si_BadText ["self", "line", "column"] CBadText fIBadText _ := ⟨FIBadText, FIBadText.binds (ps := ["self", "line", "column"]) fun _ _ _ _ _ _ us hl => match us, hl with | [_, _, _], _ => rfl, aIBadText, tBadText⟩
  have ETooLarge := errT_of RTooLarge MTooLarge (PySem.W.mg_of X G ATooLarge) BTooLarge
  have FITooLarge := fun_mk (st := si_TooLarge) lITooLarge cITooLarge kITooLarge
  have ITooLarge : IniT K "TooLarge.__init__" si_TooLarge ["self", "what", "number", "limit"] CTooLarge fITooLarge _ := ⟨FITooLarge, FITooLarge.binds (ps := ["self", "what", "number", "limit"]) fun _ _ _ _ _ _ us hl => match us, hl with | [_, _, _, _], _ => rfl, aITooLarge, tTooLarge⟩
  have Es : Er K mg CBadText CTooLarge CS fIBadText fITooLarge _ _ := ⟨EBadText, IBadText, ETooLarge, ITooLarge, PySem.W.mg_of X G AS, PySem.W.mg_none_of X G NV, kBS, kBV, kBT, xBB, xTB, xTT, PySem.W.mg_of X G GG, ⟨_, PySem.W.mg_of X G GD, _, rfl⟩, ⟨_, PySem.W.mg_of X G GM, _, rfl⟩, ND⟩
  exact ⟨PySem.W.fnOf "law" "law" (defArgs stlaw) (defBody stlaw) (defScope stlaw) .none kVlaw dclaw pmlaw anlaw cdlaw ctlaw, fun s v => .of_eq rfl, fun base _ _ => FnG.of (oklaw (blt_of X G BT0) Es D_law_draw D_law_pick D_law_big D_law_begin D_law_bent D_law_digits_end D_law_gcd D_law_q D_law_due D_law_pen D_law_is_whole D_law_is_ratio Dlowest Ddigits_end Dwrong_column Dratio_of D_law_read Dlaw)⟩

theorem walk {l : PySem.W.OpenLaw} {q : Program} {loose : List Str} {XP : (Str → Option Value) → Heap → Prop} {YP : World → Heap → Prop} {d : DefRec} {K : Params → PySem.W.Frag} (hn : l.most = some 63) (hdf : d.params.defaults = [])
    (hY : ∀ (w : World) (h : Heap), YP w h → (K w.params).In h)
    (F : ∀ (w : World) (mg : Str → Option Value) (fa : Addr) (h : Heap), (K w.params).In h → h.Ns mainGlobals mg → mg d.name = some (.ref fa) → ∃ fd : FuncData, (∀ (s : Shared) (u : Value), BindsTo s fd ⟨[u], []⟩ [("_law_script", u)]) ∧
      ∀ base : Heap, (K w.params).In base → base.Ns mainGlobals mg → FnG l.prog w (K w.params) mg base CX0 5 fa fd ["_law_script"] (spLaw (K w.params))) : PySem.W.WalkO q loose XP YP l.row.toRowW d [] (fun f vs => PySem.call f vs) :=
  walkG (n := 63) (sp := spLaw) hn (by decide) hdf ⟨rfl, by decide, by decide⟩ hY F (fun K H a ns hl _ hS => ⟨a, ns, rfl, hS, hl, fun _ => rfl⟩)
end AL
open PySem PySem.W PyProof.Rows
set_option maxRecDepth 100000 in
set_option maxHeartbeats 0 in
theorem PySem.Challenge.cw_allscales_k00_ratio_texts_holds : PySem.Challenge.rw_allscales_k00_ratio_texts.Holds := by
  w_on; o_law; k_head; (case hw => w_witness2)
  k_fill
  refine AL.walk (l := PySem.Challenge.rw_allscales_k00_ratio_texts) rfl rfl (fun w h Y => PySem.W.kIn_of Y) ?F
  case F =>
    intro w mg fa h KX G hmg
    refine' AL.all_mk KX G hmg ?a_law_pen ?l_law_pen ?c_law_pen ?k_law_pen ?a_law_draw ?l_law_draw ?c_law_draw ?k_law_draw ?a_law_pick ?l_law_pick ?c_law_pick ?k_law_pick ?a_law_big ?l_law_big ?c_law_big ?k_law_big ?a_law_gcd ?l_law_gcd ?c_law_gcd ?k_law_gcd ?a_law_q ?l_law_q ?c_law_q ?k_law_q ?a_law_is_whole ?l_law_is_whole ?c_law_is_whole ?k_law_is_whole ?a_law_is_ratio ?l_law_is_ratio ?c_law_is_ratio ?k_law_is_ratio ?a_law_digits_end ?l_law_digits_end ?c_law_digits_end ?k_law_digits_end ?alowest ?llowest ?clowest ?klowest ?adigits_end ?ldigits_end ?cdigits_end ?kdigits_end ?awrong_column ?lwrong_column ?cwrong_column ?kwrong_column ?aratio_of ?lratio_of ?cratio_of ?kratio_of ?a_law_due ?l_law_due ?c_law_due ?k_law_due ?a_law_read ?l_law_read ?c_law_read ?k_law_read ?a_law_begin ?l_law_begin ?c_law_begin ?k_law_begin ?a_law_bent ?l_law_bent ?c_law_bent ?k_law_bent ?alaw ?llaw ?claw ?klaw ?ABadText ?RBadText ?MBadText ?BBadText ?aIBadText ?lIBadText ?cIBadText ?kIBadText ?tBadText ?ATooLarge ?RTooLarge ?MTooLarge ?BTooLarge ?aITooLarge ?lITooLarge ?cITooLarge ?kITooLarge ?tTooLarge ?AS ?NV ?kBS ?kBV ?kBT ?xBB ?xTB ?xTT ?GG ?GD ?GM ?ND ?BT0
    (case a_law_pen => k_is)
    (case l_law_pen => k_is)
    (case c_law_pen => k_is)
    (case k_law_pen => k_is)
    (case a_law_draw => k_is)
    (case l_law_draw => k_is)
    (case c_law_draw => k_is)
    (case k_law_draw => k_is)
    (case a_law_pick => k_is)
    (case l_law_pick => k_is)
    (case c_law_pick => k_is)
    (case k_law_pick => k_is)
    (case a_law_big => k_is)
    (case l_law_big => k_is)
    (case c_law_big => k_is)
    (case k_law_big => k_is)
    (case a_law_gcd => k_is)
    (case l_law_gcd => k_is)
    (case c_law_gcd => k_is)
    (case k_law_gcd => k_is)
    (case a_law_q => k_is)
    (case l_law_q => k_is)
    (case c_law_q => k_is)
    (case k_law_q => k_is)
    (case a_law_is_whole => k_is)
    (case l_law_is_whole => k_is)
    (case c_law_is_whole => k_is)
    (case k_law_is_whole => k_is)
    (case a_law_is_ratio => k_is)
    (case l_law_is_ratio => k_is)
    (case c_law_is_ratio => k_is)
    (case k_law_is_ratio => k_is)
    (case a_law_digits_end => k_is)
    (case l_law_digits_end => k_is)
    (case c_law_digits_end => k_is)
    (case k_law_digits_end => k_is)
    (case alowest => k_is)
    (case llowest => k_is)
    (case clowest => k_is)
    (case klowest => k_is)
    (case adigits_end => k_is)
    (case ldigits_end => k_is)
    (case cdigits_end => k_is)
    (case kdigits_end => k_is)
    (case awrong_column => k_is)
    (case lwrong_column => k_is)
    (case cwrong_column => k_is)
    (case kwrong_column => k_is)
    (case aratio_of => k_is)
    (case lratio_of => k_is)
    (case cratio_of => k_is)
    (case kratio_of => k_is)
    (case a_law_due => k_is)
    (case l_law_due => k_is)
    (case c_law_due => k_is)
    (case k_law_due => k_is)
    (case a_law_read => k_is)
    (case l_law_read => k_is)
    (case c_law_read => k_is)
    (case k_law_read => k_is)
    (case a_law_begin => k_is)
    (case l_law_begin => k_is)
    (case c_law_begin => k_is)
    (case k_law_begin => k_is)
    (case a_law_bent => k_is)
    (case l_law_bent => k_is)
    (case c_law_bent => k_is)
    (case k_law_bent => k_is)
    (case alaw => k_is)
    (case llaw => k_is)
    (case claw => k_is)
    (case klaw => k_is)
    (case ABadText => k_is)
    (case RBadText => k_is)
    (case MBadText => decide +kernel)
    (case BBadText => kernel_rfl)
    (case aIBadText => k_is)
    (case lIBadText => k_is)
    (case cIBadText => k_is)
    (case kIBadText => k_is)
    (case tBadText => k_is)
    (case ATooLarge => k_is)
    (case RTooLarge => k_is)
    (case MTooLarge => decide +kernel)
    (case BTooLarge => kernel_rfl)
    (case aITooLarge => k_is)
    (case lITooLarge => k_is)
    (case cITooLarge => k_is)
    (case kITooLarge => k_is)
    (case tTooLarge => k_is)
    (case AS => k_is)
    (case NV => k_is)
    (case kBS => kernel_rfl)
    (case kBV => kernel_rfl)
    (case kBT => kernel_rfl)
    (case xBB => kernel_rfl)
    (case xTB => kernel_rfl)
    (case xTT => kernel_rfl)
    (case GG => k_is)
    (case GD => k_is)
    (case GM => k_is)
    (case ND => kernel_rfl)
    (case BT0 => kernel_rfl)
#print axioms PySem.Challenge.cw_allscales_k00_ratio_texts_holds
