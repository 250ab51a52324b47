import PyProof.Rows.All
import Wide.All
import OpenK.AllK
import Wide.FinOn
import PySem.Challenge.RW_stridelots_k03_texts_of_no_standing
import HandS.Base
import HandS.Call
import HandS.List
import HandS.Comp
import HandS.Ends
import HandS.Dict
import HandS.Iter
import HandS.Text
import HandS.Words
import HandS.WordsList
import HandS.Wide
import HandS.FStr
import PyProof.StrOps2
import HandS.Codes
import HandS.Walk
import PyProof.ReprRoads
import HandS.FStrTup
import KE.KExcSuper
import HandS.ExcInit
import HandS.ExcOwn
import HandS.ExcSuper
import HandS.ForExc
import HandS.WordsExc
import HandS.TryOnly
import PyProof.ListStr
import HandS.Conv
import HandS.TupAny
import HandS.IsInst
import HandS.ExcValue
import KE.KExcIs
set_option Elab.async false
set_option linter.all false
set_option maxRecDepth 100000
set_option maxHeartbeats 4000000
/-! Common to all rows: powers of great ints, heaps that keep all but one place, pots. -/
namespace Lot
open PySem PySem.Spec PyProof.Rows L2
theorem iteP {b : Bool} {A B : Prop} (hb : b = true) (h : A) : if b = true then A else B := by
  rw [if_pos hb]; exact h
theorem iteN {b : Bool} {A B : Prop} (hb : b = false) (h : B) : if b = true then A else B := by
  rw [hb, if_neg Bool.false_ne_true]; exact h
/-! ### powers -/
def CPowW (i j : Int) : Prop := 0 ≤ j ∧ j ≤ 10 ∧ i.natAbs < 2 ^ 200
theorem CPowW.bits {i j : Int} (h : CPowW i j) : (Builtin.Int.intBits i : Int) * j ≤ 2 ^ 27 := by
  obtain ⟨h0, h1, h2⟩ := h
  have hb : Builtin.Int.intBits i ≤ 201 := by
    unfold Builtin.Int.intBits
    have := PySem.Flt.log2_lt_of (by decide : 0 < 200) h2
    split <;> omega
  have h3 : (Builtin.Int.intBits i : Int) * j ≤ 201 * j := Int.mul_le_mul_of_nonneg_right (by omega) h0
  omega
theorem op_powW {X : Cx} : OpR X (binaryOp .Pow) (rI CPowW fun i j => .int (i ^ j.toNat)) := opI fun _ _ _ _ _ _ _ hc q => pow_int hc.1 hc.bits q
/-! ### heaps -/
theorem same_upd {H : Hp} {p : Addr} {o : HO} (h : H p = none) : Same H (upd H p o) := fun b x e => by
  rw [upd_ne (ne_of_none e h)]
  exact e
/-- all that is tracked stays, but for p -/
def But (p : Addr) (H H' : Hp) : Prop := ∀ b o, b ≠ p → H b = some o → H' b = some o
theorem But.refl {p : Addr} {H : Hp} : But p H H := fun _ _ _ h => h
theorem But.trans {p : Addr} {H H1 H2 : Hp} (a : But p H H1) (b : But p H1 H2) : But p H H2 := fun c o n h => b c o n (a c o n h)
theorem But.upd {p : Addr} {H : Hp} {o : HO} : But p H (upd H p o) := fun b x n e => by
  rw [upd_ne n]
  exact e
theorem But.of_same {p : Addr} {H H' : Hp} (h : Same H H') : But p H H' := fun b o _ e => h b o e
theorem But.seq {K : PySem.W.Frag} {p : Addr} {H H' : Hp} {a : Addr} {xs : List V} (e : But p H H') (n : a ≠ p) (h : SqL K H a xs) : SqL K H' a xs := by
  rcases h with (h | ⟨o, h⟩) | h
  · exact .inl (.inl (e _ _ n h))
  · exact .inl (.inr ⟨o, e _ _ n h⟩)
  · exact .inr h
/-! ### pots -/
def PotV (N : Nat) (vs : List V) : Prop := ∃ a c n : Int, vs = [.int a, .int c, .int n] ∧ 0 ≤ a ∧ 0 ≤ c ∧ c < 10 ^ 39 ∧ 0 ≤ n ∧ n ≤ (N : Int)
/-- at p stands a pot of which at most N draws were taken -/
def PotAt (H : Hp) (p : Addr) (N : Nat) : Prop := ∃ vs, H p = some (.lst vs) ∧ PotV N vs
theorem PotV.mono {N M : Nat} {vs : List V} (h : PotV N vs) (le : N ≤ M) : PotV M vs := by
  obtain ⟨a, c, n, e, h1, h2, h3, h4, h5⟩ := h
  exact ⟨a, c, n, e, h1, h2, h3, h4, by omega⟩
theorem PotAt.mono {H : Hp} {p : Addr} {N M : Nat} (h : PotAt H p N) (le : N ≤ M) : PotAt H p M := by
  obtain ⟨vs, e, h⟩ := h
  exact ⟨vs, e, h.mono le⟩
theorem PotAt.same {H H' : Hp} {p : Addr} {N : Nat} (h : PotAt H p N) (s : Same H H') : PotAt H' p N := by
  obtain ⟨vs, e, h⟩ := h
  exact ⟨vs, s _ _ e, h⟩
theorem PotAt.ne {H : Hp} {p : Addr} {N : Nat} (h : PotAt H p N) {q : Addr} (e : H q = none) : q ≠ p := fun z => by
  obtain ⟨vs, f, _⟩ := h
  rw [z] at e; rw [e] at f; cases f
theorem PotAt.upd {H : Hp} {p : Addr} {N : Nat} {vs : List V} (h : PotV N vs) : PotAt (L2.upd H p (.lst vs)) p N := ⟨vs, upd_same, h⟩
theorem PotAt.updne {H : Hp} {p q : Addr} {N : Nat} {o : HO} (h : PotAt H p N) (n : p ≠ q) : PotAt (L2.upd H q o) p N := by
  obtain ⟨vs, e, h⟩ := h
  exact ⟨vs, by rw [upd_ne n]; exact e, h⟩
theorem int_lt_pow {i : Int} {k : Nat} (h0 : 0 ≤ i) (h : i < 2 ^ k) : i.natAbs < 2 ^ k := by
  have e : ((i.natAbs : Nat) : Int) = i := Int.natAbs_of_nonneg h0
  have h2 : ((i.natAbs : Nat) : Int) < ((2 ^ k : Nat) : Int) := by
    rw [e, Int.natCast_pow]; exact h
  exact Int.ofNat_lt.mp h2
theorem modlt {a b : Int} (h : 0 < b) : 0 ≤ a % b ∧ a % b < b := ⟨Int.emod_nonneg _ (by omega), Int.emod_lt_of_pos _ h⟩
/-! ### boards -/
inductive Bd where
  | row (n : Nat) | ring (n : Nat) | floor (h w : Nat)
def Bd.vals : Bd → List V
  | .row n => [.str "row", .int n]
  | .ring n => [.str "ring", .int n]
  | .floor h w => [.str "floor", .int h, .int w]
def Bd.Ok (most : Nat) : Bd → Prop
  | .row n => 3 ≤ n ∧ n ≤ most
  | .ring n => 5 ≤ n ∧ n ≤ most
  | .floor h w => 1 ≤ h ∧ 1 ≤ w ∧ h * w ≤ most
def Bd.high : Bd → Nat
  | .floor h _ => h
  | _ => 1
def Bd.wide : Bd → Nat
  | .row n => n
  | .ring n => n
  | .floor _ w => w
def Bd.cells (b : Bd) : Nat := b.high * b.wide
/-! ### a def of the text, ready to be called -/
structure Def (P : Program) (w : World) (K : PySem.W.Frag) (mg : Str → Option Value) (base : Heap) (k : Nat) (x : Str) (ps : List Str) (sp : Sp) (f : Addr) (fd : FuncData) : Prop where
  ok : FnOk P w K mg base CX0 k f fd ps sp
  g : mg x = some (.ref f)
  kp : PySem.W.keepIn K (.ref f) = true
  b : Binds K fd ps []
end Lot
namespace Lot
open PySem PySem.Spec PyProof.Rows L2
theorem same_new {H H' : Hp} {D : Addr} {o : HO} (s : Same H H') (n : H D = none) : Same H (upd H' D o) := fun b x e => by
  rw [upd_ne (ne_of_none e n)]
  exact s _ _ e
theorem But.new {p : Addr} {H H' : Hp} {D : Addr} {o : HO} (s : But p H H') (n : H D = none) : But p H (L2.upd H' D o) := fun b x hb e => by
  rw [upd_ne (ne_of_none e n)]
  exact s _ _ hb e
/-- an object that is not the pot's stood nowhere before -/
theorem But.free {p : Addr} {H H' : Hp} {b : Addr} (B : But p H H') (hb : b ≠ p) (h : H' b = none) : H b = none := by
  cases z : H b with
  | none => rfl
  | some o => rw [B b o hb z] at h; cases h
theorem PotAt.is {H : Hp} {p : Addr} {N : Nat} (h : PotAt H p N) : ∃ vs, H p = some (.lst vs) := by
  obtain ⟨vs, e, _⟩ := h
  exact ⟨vs, e⟩
theorem perm_erase {α : Type} : ∀ {l : List α} {k : Nat} {x : α}, l[k]? = some x → List.Perm (x :: l.eraseIdx k) l
  | [], k, x, h => by simp at h
  | a :: l, 0, x, h => by
    have e : a = x := Option.some.inj h
    subst e
    exact List.Perm.refl _
  | a :: l, k + 1, x, h => by
    have ih := perm_erase (l := l) (k := k) (x := x) h
    show List.Perm (x :: a :: l.eraseIdx k) (a :: l)
    exact (List.Perm.swap _ _ _).trans (List.Perm.cons a ih)
/-! ### things -/
def thing (t : Str × Nat) : List V := [.str t.1, .int t.2]
def Things (H : Hp) : List Addr → List (Str × Nat) → Prop
  | [], [] => True
  | a :: as, t :: ts => H a = some (.tup (thing t)) ∧ Things H as ts
  | _, _ => False
theorem Things.same {H H' : Hp} (s : Same H H') : ∀ {as : List Addr} {ts : List (Str × Nat)}, Things H as ts → Things H' as ts
  | [], [], _ => trivial
  | a :: as, t :: ts, h => ⟨s _ _ h.1, Things.same s h.2⟩
  | [], _ :: _, h => h.elim
  | _ :: _, [], h => h.elim
theorem Things.but {p : Addr} {H H' : Hp} (s : But p H H') (hp : ∃ vs, H p = some (.lst vs)) : ∀ {as : List Addr} {ts : List (Str × Nat)}, Things H as ts → Things H' as ts
  | [], [], _ => trivial
  | a :: as, t :: ts, h => ⟨s _ _ (fun z => by
      obtain ⟨vs, e⟩ := hp
      have := h.1
      rw [z, e] at this
      cases this) h.1, Things.but s hp h.2⟩
  | [], _ :: _, h => h.elim
  | _ :: _, [], h => h.elim
theorem Things.length {H : Hp} : ∀ {as : List Addr} {ts : List (Str × Nat)}, Things H as ts → as.length = ts.length
  | [], [], _ => rfl
  | a :: as, t :: ts, h => by
    rw [List.length_cons, List.length_cons, Things.length h.2]
  | [], _ :: _, h => h.elim
  | _ :: _, [], h => h.elim
theorem Things.get {H : Hp} : ∀ {as : List Addr} {ts : List (Str × Nat)} {i : Nat} {t : Str × Nat}, Things H as ts → ts[i]? = some t → ∃ a, as[i]? = some a ∧ H a = some (.tup (thing t))
  | [], [], i, t, _, e => by simp at e
  | a :: as, u :: ts, 0, t, h, e => by
    have e' : u = t := Option.some.inj e
    subst e'
    exact ⟨a, rfl, h.1⟩
  | a :: as, u :: ts, i + 1, t, h, e => Things.get (i := i) h.2 e
  | [], _ :: _, _, _, h, _ => h.elim
  | _ :: _, [], _, _, h, _ => h.elim
theorem Things.snoc {H : Hp} {b : Addr} {u : Str × Nat} (hb : H b = some (.tup (thing u))) : ∀ {as : List Addr} {ts : List (Str × Nat)}, Things H as ts → Things H (as ++ [b]) (ts ++ [u])
  | [], [], _ => ⟨hb, trivial⟩
  | a :: as, t :: ts, h => ⟨h.1, Things.snoc hb h.2⟩
  | [], _ :: _, h => h.elim
  | _ :: _, [], h => h.elim
/-- a standing at t: its things -/
def StandAt (H : Hp) (t : Addr) (ths : List (Str × Nat)) : Prop := ∃ as : List Addr, H t = some (.tup (as.map V.ref)) ∧ Things H as ths
theorem StandAt.same {H H' : Hp} {t : Addr} {ths : List (Str × Nat)} (h : StandAt H t ths) (s : Same H H') : StandAt H' t ths := by
  obtain ⟨as, e, g⟩ := h
  exact ⟨as, s _ _ e, g.same s⟩
theorem StandAt.but {p : Addr} {H H' : Hp} {t : Addr} {ths : List (Str × Nat)} (h : StandAt H t ths) (s : But p H H') (hp : ∃ vs, H p = some (.lst vs)) : StandAt H' t ths := by
  obtain ⟨as, e, g⟩ := h
  refine ⟨as, s _ _ (fun z => ?_) e, g.but s hp⟩
  obtain ⟨vs, f⟩ := hp
  rw [z, f] at e
  cases e
end Lot
namespace Lot
open PySem PySem.Spec PyProof.Rows L2
theorem same_but {p : Addr} {H H1 H2 : Hp} (s : Same H H1) (hp : H p = none) (b : But p H1 H2) : Same H H2 := fun c o e => b c o (ne_of_none e hp) (s _ _ e)
theorem Bd.cells_le {bd : Bd} (ok : bd.Ok 36) : 1 ≤ bd.cells ∧ bd.cells ≤ 36 := by
  cases bd with
  | row n => rw [show (Bd.row n).cells = n from Nat.one_mul n]; exact ⟨by have := ok.1; omega, ok.2⟩
  | ring n => rw [show (Bd.ring n).cells = n from Nat.one_mul n]; exact ⟨by have := ok.1; omega, ok.2⟩
  | floor h w => exact ⟨Nat.mul_pos ok.1 ok.2.1, ok.2.2⟩
end Lot

namespace Lot
open PySem PySem.Spec PyProof.Rows L2
/-! ### texts many times -/
def rRepS : R2 := fun x y H Q => ∃ (z : Str) (k : Int), x = .str z ∧ y = .int k ∧ 0 ≤ k ∧ k ≤ 1000 ∧ z.length ≤ 1000 ∧ ∀ r : Str, r.cps.toList = (List.replicate k.toNat z.cps.toList).flatten → Q (.str r) H
theorem foldl_arr : ∀ (l : List (Array Nat)) (a : Array Nat), (l.foldl (· ++ ·) a).toList = a.toList ++ (l.map (·.toList)).flatten
  | [], a => by simp
  | x :: l, a => by
    rw [List.foldl_cons, foldl_arr l (a ++ x)]
    simp [List.append_assoc]
theorem op_repS {X : Cx} : OpR X (binaryOp .Mult) rRepS := by
  intro pins s σ H x y v u Q I rx ry h
  obtain ⟨z, k, rfl, rfl, h0, h1, hz, q⟩ := h
  obtain ⟨t, rfl⟩ := rx
  obtain ⟨t', rfl⟩ := ry
  refine PySem.P.mul_str ?_ ?_ ?_ ?_
  · rw [decide_eq_false (by omega), decide_eq_false (by omega)]; rfl
  · intro a _ b
    have : (2 ^ 63 - 1 : Int) / k ≥ 1000 := by
      have := (Int.le_ediv_iff_mul_le (a := 1000) (b := 2 ^ 63 - 1) (c := k) (by omega)).mpr (by omega)
      omega
    omega
  · intro _ _
    unfold Builtin.Str.tooLong
    have e : z.length * k.toNat ≤ 1000 * 1000 := Nat.mul_le_mul hz (by omega)
    have e2 : 1000 * 1000 < sizeLine := by decide
    simp only [decide_eq_false_iff_not]
    omega
  · by_cases c : k < 1
    · rw [if_pos c]
      refine ⟨by decide, .str Str.empty, H, I.tok _, ⟨_, rfl⟩, q _ ?_⟩
      have : k.toNat = 0 := by omega
      rw [this]
      rfl
    · rw [if_neg c]
      by_cases c2 : (k == 1 || z.length == 0) = true
      · rw [if_pos c2]
        refine ⟨.str z, H, I, ⟨t, rfl⟩, q _ ?_⟩
        rw [Bool.or_eq_true] at c2
        rcases c2 with c2 | c2
        · have : k = 1 := by simpa using c2
          subst this
          show z.cps.toList = (List.replicate 1 z.cps.toList).flatten
          simp
        · have : z.cps.toList = [] := by
            have : z.cps.size = 0 := by simpa [Str.length] using c2
            exact List.eq_nil_of_length_eq_zero (by simpa using this)
          rw [this]
          simp
      · rw [if_neg c2]
        refine ⟨?_, .str ⟨(List.replicate k.toNat z.cps).foldl (· ++ ·) #[]⟩, H, I.tok _, ⟨_, rfl⟩, q _ ?_⟩
        · have e : (⟨(List.replicate k.toNat z.cps).foldl (· ++ ·) #[]⟩ : Str).length = k.toNat * z.length := by
            show ((List.replicate k.toNat z.cps).foldl (· ++ ·) #[]).size = _
            rw [← Array.length_toList, foldl_arr]
            have hz : z.length = z.cps.toList.length := by simp [Str.length]
            rw [hz]
            have : ∀ n : Nat, ((#[] : Array Nat).toList ++ ((List.replicate n z.cps).map (·.toList)).flatten).length = n * z.cps.toList.length := fun n => by
              induction n with
              | zero => simp
              | succ n ih =>
                rw [List.replicate_succ, List.map_cons, List.flatten_cons, Nat.succ_mul, ← ih]
                simp
                omega
            exact this _
          rw [e]
          have e : k.toNat * z.length ≤ 1000 * 1000 := Nat.mul_le_mul (by omega) hz
          have e2 : 1000 * 1000 < sizeLine := by decide
          omega
        · rw [foldl_arr]
          simp
/-! ### names -/
/-- as a name: n letters a to z -/
def Abc (n : Nat) (z : Str) : Prop := z.length = n ∧ ∀ c ∈ z.cps.toList, 97 ≤ c ∧ c ≤ 122
theorem Abc.app {n m : Nat} {a b : Str} (h : Abc n a) (g : Abc m b) : Abc (n + m) (a ++ b) := by
  refine ⟨?_, ?_⟩
  · show (a.cps ++ b.cps).size = _
    rw [Array.size_append]
    have h1 : a.cps.size = n := h.1
    have g1 : b.cps.size = m := g.1
    omega
  · intro c hc
    have : c ∈ (a.cps ++ b.cps).toList := hc
    rw [Array.toList_append, List.mem_append] at this
    exact this.elim (h.2 c) (g.2 c)
theorem Abc.rep {n k : Nat} {a r : Str} (h : Abc n a) (e : r.cps.toList = (List.replicate k a.cps.toList).flatten) : Abc (n * k) r := by
  have h1 : a.cps.toList.length = n := by simpa [Str.length] using h.1
  refine ⟨?_, ?_⟩
  · show r.cps.size = _
    rw [← Array.length_toList, e]
    clear e
    induction k with
    | zero => rfl
    | succ k ih => rw [List.replicate_succ, List.flatten_cons, List.length_append, ih, h1, Nat.mul_succ, Nat.add_comm]
  · intro c hc
    rw [e] at hc
    obtain ⟨l, hl, hc⟩ := List.mem_flatten.mp hc
    exact h.2 c ((List.mem_replicate.mp hl).2 ▸ hc)
theorem Abc.one {c : Nat} (h1 : 97 ≤ c) (h2 : c ≤ 122) : Abc 1 ⟨#[c]⟩ := ⟨rfl, fun d hd => by
  have : d = c := by simpa using hd
  omega⟩
def NameOk (z : Str) : Prop := 1 ≤ z.length ∧ z.length ≤ 4 ∧ ∀ c ∈ z.cps.toList, 97 ≤ c ∧ c ≤ 122
theorem Abc.name {n : Nat} {z : Str} (h : Abc n z) (h1 : 1 ≤ n) (h4 : n ≤ 4) : NameOk z := ⟨by rw [h.1]; exact h1, by rw [h.1]; exact h4, h.2⟩
/-- the letters -/
def abc : Str := "abcdefghijklmnopqrstuvwxyz"
theorem abc_list : abc.cps.toList = (List.range 26).map (97 + ·) := by decide +kernel
theorem abc_len : abc.length = 26 := by decide +kernel
theorem abc_at {i : Int} (h0 : 0 ≤ i) (h1 : i < 26) : atI abc.cps.toList i = some (97 + i.toNat) := by
  have e : i = ((i.toNat : Nat) : Int) := (Int.toNat_of_nonneg h0).symm
  rw [e]
  refine atI_nat ?_
  rw [abc_list, List.getElem?_map, List.getElem?_range (by omega)]
  rfl
end Lot
namespace Lot
open PySem PySem.Spec PyProof.Rows L2
theorem abc_cut : ∀ s : Nat, s < 26 → cutS abc (some (s : Int)) (some ((s : Int) + 1)) = ⟨#[97 + s]⟩ := by decide +kernel
theorem Abc.le2 {n m : Nat} {a b : Str} (h : Abc n a) (g : Abc m b) (l : n + m ≤ 1000) : a.length + b.length ≤ sizeLine := by
  rw [h.1, g.1]
  exact Nat.le_of_lt (small1000 l)
end Lot
/-! ### rules in a comprehension's block: what is written (K) said by the def's own name -/
namespace Lot
open PySem PySem.Spec PyProof.Rows L2
section
variable {X : Cx} {K : PySem.W.Frag}
theorem pe_bmK {T : String} {e : Expr} {to : TE} {t : TA} {r : V → List V → Hp → VK → Prop} (hK : X.K = K) (h : PE X e (tBM X.K T r to t)) : PE X e (tBM K T r to t) := hK ▸ h
def rJoinK (K : PySem.W.Frag) : V → List V → Hp → VK → Prop := fun x xs H Q => ∃ a p, ∃ ys : List Str, x = .str a ∧ xs = [.ref p] ∧ (SqL K H p (ys.map V.str) ∨ SqT K H p (ys.map V.str)) ∧
  (ys.map (·.length)).sum + ys.length * a.length ≤ 16777216 ∧ Q (.str (Txt.join a ys)) H
theorem pe_joinK {e : Expr} {to te : TE} (hK : X.K = K) (h : PE X e (tM1 (rJoinK X.K) to te)) : PE X e (tM1 (rJoinK K) to te) := hK ▸ h
theorem sl_listK (hK : X.K = K) : SlR X (rSlL K) := hK ▸ sl_list
theorem sl_tupK (hK : X.K = K) : SlR X (rSlT K) := hK ▸ sl_tup
def rLenK (K : PySem.W.Frag) : List V → Hp → VK → Prop := fun xs H Q => ∃ p ys, xs = [.ref p] ∧ (SqL K H p ys ∨ SqT K H p ys) ∧ Q (.int ys.length) H
theorem call_len_seqK (hK : X.K = K) : CallR X (.builtin "len") (rLenK K) := hK ▸ call_len_seq
theorem op_eqDK (hK : X.K = K) (hu : X.A.units + 64 < cLine) : OpR X (compareOp .Eq) (rEqD K) := hK ▸ op_eqD hu
theorem op_neDK (hK : X.K = K) (hu : X.A.units + 64 < cLine) : OpR X (compareOp .NotEq) (rNeD K) := hK ▸ op_neD hu
theorem ix_listK (hK : X.K = K) : IxR X (rIxL K) := hK ▸ ix_list
theorem ix_tupK (hK : X.K = K) : IxR X (rIxT K) := hK ▸ ix_tup
end
end Lot
namespace Lot
open PySem PySem.Spec PyProof.Rows L2
theorem seqIx {n r : Nat} (h : r < n) : seqIndex? (r : Int) n = some r := by
  refine (ixN_seq ?_).1
  unfold ixN
  rw [if_pos (by omega), if_pos (by omega)]
  rfl
end Lot

/-! Standings as texts: the mathematics. -/
namespace Lot
open PySem PySem.Spec PyProof.Rows L2
abbrev slash : Str := Str.ofString "/"
def Bd.edge (bd : Bd) (i : Nat) : Bool := match bd with
  | .floor _ w => decide (0 < i) && decide (i % w = 0)
  | _ => false
def dash (f : Nat) : Str := if f = 0 then "" else "-"
def word (th : Str × Nat) : Str := dash th.2 ++ th.1
def cellWords (bd : Bd) (i : Nat) (th : Str × Nat) : List Str := (if bd.edge i then [slash] else []) ++ [word th]
def wordsFrom (bd : Bd) : Nat → List (Str × Nat) → List Str
  | _, [] => []
  | i, th :: r => cellWords bd i th ++ wordsFrom bd (i + 1) r
theorem wordsFrom_app (bd : Bd) : ∀ (xs ys : List (Str × Nat)) (i : Nat), wordsFrom bd i (xs ++ ys) = wordsFrom bd i xs ++ wordsFrom bd (i + xs.length) ys
  | [], ys, i => by simp [wordsFrom]
  | x :: xs, ys, i => by
    show cellWords bd i x ++ wordsFrom bd (i + 1) (xs ++ ys) = (cellWords bd i x ++ wordsFrom bd (i + 1) xs) ++ _
    rw [wordsFrom_app bd xs ys (i + 1), List.append_assoc, List.length_cons]
    rw [show i + 1 + xs.length = i + (xs.length + 1) by omega]
theorem wordsFrom_take (bd : Bd) {ths : List (Str × Nat)} {i : Nat} {th : Str × Nat} (h : ths[i]? = some th) : wordsFrom bd 0 (ths.take (i + 1)) = wordsFrom bd 0 (ths.take i) ++ cellWords bd i th := by
  have hi : i < ths.length := (List.getElem?_eq_some_iff.mp h).1
  rw [List.take_add_one, h, wordsFrom_app]
  have e : (ths.take i).length = i := by rw [List.length_take]; omega
  rw [e, Nat.zero_add]
  show _ ++ (cellWords bd i th ++ []) = _
  rw [List.append_nil]
/-- the text of a standing -/
def textOf (bd : Bd) (ths : List (Str × Nat)) : Str := Str.join " " (wordsFrom bd 0 ths)
/-- names that stand: faces 0, 1 -/
def ThOk (th : Str × Nat) : Prop := NameOk th.1 ∧ th.2 < 2
theorem str_app_len (a b : Str) : (a ++ b).length = a.length + b.length := by
  show (a.cps ++ b.cps).size = _
  rw [Array.size_append]; rfl
theorem word_len {th : Str × Nat} (h : ThOk th) : (word th).length ≤ 5 := by
  have e : (word th).length = (dash th.2).length + th.1.length := str_app_len _ _
  have h1 : (dash th.2).length ≤ 1 := by
    unfold dash
    split <;> decide
  have := h.1.2.1
  omega
theorem words_ok (bd : Bd) : ∀ (ths : List (Str × Nat)) (i : Nat), (∀ th ∈ ths, ThOk th) → (∀ z ∈ wordsFrom bd i ths, z.length ≤ 5) ∧ (wordsFrom bd i ths).length ≤ 2 * ths.length
  | [], i, _ => ⟨(fun z hz => by cases hz), Nat.le_refl _⟩
  | th :: r, i, h => by
    have ih := words_ok bd r (i + 1) fun t ht => h t (List.mem_cons_of_mem _ ht)
    have hw := word_len (h th List.mem_cons_self)
    refine ⟨fun z hz => ?_, ?_⟩
    · rcases List.mem_append.mp hz with hz | hz
      · rcases List.mem_append.mp hz with hz | hz
        · split at hz
          · rw [List.mem_singleton.mp hz]; decide
          · cases hz
        · rw [List.mem_singleton.mp hz]; exact hw
      · exact ih.1 z hz
    · show (((if bd.edge i then [slash] else []) ++ [word th]) ++ wordsFrom bd (i + 1) r).length ≤ _
      rw [List.length_append, List.length_append]
      have h2 : (th :: r).length = r.length + 1 := rfl
      have : (if bd.edge i then ([slash] : List Str) else []).length ≤ 1 := by split <;> decide
      have h1 : [word th].length = 1 := rfl
      omega
theorem sum_len {ys : List Str} {m : Nat} (h : ∀ z ∈ ys, z.length ≤ m) : (ys.map (·.length)).sum ≤ ys.length * m := by
  induction ys with
  | nil => simp
  | cons y r ih =>
    have := ih fun z hz => h z (List.mem_cons_of_mem _ hz)
    have := h y List.mem_cons_self
    rw [List.map_cons, List.sum_cons, List.length_cons, Nat.succ_mul]
    omega
theorem join_fits {ys : List Str} {m n k : Nat} (h : ∀ z ∈ ys, z.length ≤ m) (hn : ys.length ≤ n) (c : n * m + n * k ≤ 16777216) : (ys.map (·.length)).sum + ys.length * k ≤ 16777216 := by
  have h1 := sum_len h
  have h2 : ys.length * m ≤ n * m := Nat.mul_le_mul_right m hn
  have h3 : ys.length * k ≤ n * k := Nat.mul_le_mul_right k hn
  omega
/-! ### rows -/
theorem app_assoc (a b c : Str) : a ++ b ++ c = a ++ (b ++ c) := by
  show (⟨a.cps ++ b.cps ++ c.cps⟩ : Str) = ⟨a.cps ++ (b.cps ++ c.cps)⟩
  rw [Array.append_assoc]
theorem join_cons2 (s x y : Str) (r : List Str) : Str.join s (x :: y :: r) = x ++ s ++ Str.join s (y :: r) := rfl
theorem join_app (s : Str) : ∀ {xs ys : List Str}, xs ≠ [] → ys ≠ [] → Str.join s (xs ++ ys) = Str.join s xs ++ (s ++ Str.join s ys)
  | [], _, h, _ => absurd rfl h
  | [x], [], _, h => absurd rfl h
  | [x], y :: r, _, _ => by
    show Str.join s (x :: y :: r) = x ++ (s ++ Str.join s (y :: r))
    rw [join_cons2, app_assoc]
  | x :: z :: xs, ys, _, h => by
    show Str.join s (x :: z :: (xs ++ ys)) = _
    rw [join_cons2, join_cons2]
    have := join_app s (xs := z :: xs) (ys := ys) (by simp) h
    rw [show z :: (xs ++ ys) = (z :: xs) ++ ys from rfl, this]
    simp only [app_assoc]
/-- rows of words, a / between two -/
def glued : List (List Str) → List Str
  | [] => []
  | [r] => r
  | r :: q :: rs => r ++ (slash :: glued (q :: rs))
theorem glued_ne : ∀ {rows : List (List Str)}, rows ≠ [] → (∀ r ∈ rows, r ≠ []) → glued rows ≠ []
  | [], h, _ => absurd rfl h
  | [r], _, h => h r List.mem_cons_self
  | r :: q :: rs, _, h => by
    show r ++ _ ≠ []
    simp
theorem join_glued : ∀ {rows : List (List Str)}, rows ≠ [] → (∀ r ∈ rows, r ≠ []) → Str.join " " (glued rows) = Str.join " / " (rows.map (Str.join " "))
  | [], h, _ => absurd rfl h
  | [r], _, h => rfl
  | r :: q :: rs, _, h => by
    have hr := h r List.mem_cons_self
    have ih := join_glued (rows := q :: rs) (by simp) fun x hx => h x (List.mem_cons_of_mem _ hx)
    have hg := glued_ne (rows := q :: rs) (by simp) fun x hx => h x (List.mem_cons_of_mem _ hx)
    show Str.join " " (r ++ (slash :: glued (q :: rs))) = Str.join " / " (Str.join " " r :: Str.join " " q :: rs.map (Str.join " "))
    rw [join_app _ hr (by simp), join_cons2]
    have e2 : Str.join " / " (Str.join " " q :: rs.map (Str.join " ")) = Str.join " " (glued (q :: rs)) := ih.symm
    rw [e2]
    cases hgl : glued (q :: rs) with
    | nil => exact absurd hgl hg
    | cons y ys =>
      rw [join_cons2]
      have e3 : (" / " : Str) = (" " : Str) ++ ("/" ++ " ") := by decide +kernel
      rw [e3]
      simp only [app_assoc]
/-- the rows of a board's words: row r is the words from r * w on, w of them -/
def rowsOf (h w : Nat) (ws : List Str) : List (List Str) := (List.range h).map fun r => (ws.drop (r * w)).take w
theorem mod_in {k w j : Nat} (hj : j < w) (h0 : 0 < j) : (k * w + j) % w = j := by
  rw [Nat.mul_comm, Nat.mul_add_mod]
  exact Nat.mod_eq_of_lt hj
/-- within a row no edge -/
theorem words_row {h w k : Nat} (hw : 0 < w) : ∀ (ths : List (Str × Nat)) (j : Nat), 0 < j → j + ths.length ≤ w → wordsFrom (.floor h w) (k * w + j) ths = ths.map word
  | [], _, _, _ => rfl
  | th :: r, j, h0, hl => by
    rw [List.length_cons] at hl
    have e : (Bd.floor h w).edge (k * w + j) = false := by
      show (decide _ && decide ((k * w + j) % w = 0)) = false
      rw [mod_in (by omega) h0, Bool.and_eq_false_iff]
      exact .inr (decide_eq_false (by omega))
    show ((if (Bd.floor h w).edge (k * w + j) then _ else _) ++ [word th]) ++ wordsFrom (.floor h w) (k * w + j + 1) r = _
    rw [e, show k * w + j + 1 = k * w + (j + 1) by omega, words_row (k := k) hw r (j + 1) (by omega) (by omega)]
    rfl
theorem words_line {h w k : Nat} (hw : 0 < w) (th : Str × Nat) (r : List (Str × Nat)) (hl : r.length + 1 ≤ w) :
    wordsFrom (.floor h w) (k * w) (th :: r) = (if 0 < k then [slash] else []) ++ ((th :: r).map word) := by
  show ((if (Bd.floor h w).edge (k * w) then _ else _) ++ [word th]) ++ wordsFrom (.floor h w) (k * w + 1) r = _
  rw [words_row (k := k) hw r 1 (by omega) (by omega)]
  have e : (Bd.floor h w).edge (k * w) = decide (0 < k) := by
    show (decide (0 < k * w) && decide (k * w % w = 0)) = _
    rw [Nat.mul_mod_left]
    by_cases c : 0 < k
    · rw [decide_eq_true c, decide_eq_true (Nat.mul_pos c hw)]; rfl
    · have : k = 0 := by omega
      subst this
      simp
  rw [e]
  by_cases c : 0 < k
  · rw [decide_eq_true c, if_pos rfl, if_pos c]; rfl
  · rw [decide_eq_false c, if_neg (by decide), if_neg c]; rfl
theorem words_glued {h w : Nat} (hw : 0 < w) : ∀ (n k : Nat) (ths : List (Str × Nat)), ths.length = (n + 1) * w →
    wordsFrom (.floor h w) (k * w) ths = (if 0 < k then [slash] else []) ++ glued (rowsOf (n + 1) w (ths.map word))
  | n, k, ths, hl => by
    have hlw : w ≤ ths.length := by rw [hl, Nat.succ_mul]; omega
    have es : ths = ths.take w ++ ths.drop w := (List.take_append_drop w ths).symm
    have el : (ths.take w).length = w := by rw [List.length_take]; omega
    have first : wordsFrom (.floor h w) (k * w) (ths.take w) = (if 0 < k then [slash] else []) ++ (ths.take w).map word := by
      cases e : ths.take w with
      | nil => rw [e] at el; simp at el; omega
      | cons th r =>
        rw [e] at el
        exact words_line hw th r (by rw [List.length_cons] at el; omega)
    cases n with
    | zero =>
      have e0 : ths.take w = ths := List.take_of_length_le (by rw [hl]; omega)
      rw [e0] at first
      rw [first]
      congr 1
      show ths.map word = ((ths.map word).drop (0 * w)).take w
      rw [Nat.zero_mul, List.drop_zero, ← List.map_take, e0]
    | succ n =>
      have ih := words_glued (h := h) hw n (k + 1) (ths.drop w) (by rw [List.length_drop, hl, Nat.succ_mul (n + 1)]; omega)
      have er : rowsOf (n + 1 + 1) w (ths.map word) = (ths.take w).map word :: rowsOf (n + 1) w ((ths.drop w).map word) := by
        unfold rowsOf
        rw [List.range_succ_eq_map, List.map_cons, List.map_map]
        congr 1
        · rw [Nat.zero_mul, List.drop_zero, List.map_take]
        · refine List.map_congr_left fun r _ => ?_
          show ((ths.map word).drop ((r + 1) * w)).take w = (((ths.drop w).map word).drop (r * w)).take w
          rw [List.map_drop, List.drop_drop, Nat.succ_mul, Nat.add_comm (r * w) w]
      conv => lhs; rw [es, wordsFrom_app, el, show k * w + w = (k + 1) * w from (Nat.succ_mul k w).symm]
      rw [first, ih, if_pos (Nat.succ_pos k), er, List.append_assoc]
      congr 1
      cases e : rowsOf (n + 1) w ((ths.drop w).map word) with
      | nil =>
        unfold rowsOf at e
        rw [List.map_eq_nil_iff, List.range_eq_nil] at e
        omega
      | cons q rs => rfl
theorem words_plain (bd : Bd) (hb : ∀ i, bd.edge i = false) : ∀ (ths : List (Str × Nat)) (i : Nat), wordsFrom bd i ths = ths.map word
  | [], _ => rfl
  | th :: r, i => by
    show ((if bd.edge i then _ else _) ++ [word th]) ++ wordsFrom bd (i + 1) r = _
    rw [hb, words_plain bd hb r (i + 1)]
    rfl
theorem shown_is {bd : Bd} {ths : List (Str × Nat)} (ok : bd.Ok 36) (hl : ths.length = bd.cells) :
    Str.join " / " ((rowsOf bd.high bd.wide (ths.map word)).map (Str.join " ")) = textOf bd ths := by
  unfold textOf
  have plain : ∀ n, bd.high = 1 → bd.wide = n → (∀ i, bd.edge i = false) → bd.cells = n → Str.join " / " ((rowsOf bd.high bd.wide (ths.map word)).map (Str.join " ")) = Str.join " " (wordsFrom bd 0 ths) := fun n e1 e2 e3 e4 => by
    rw [e1, e2, words_plain bd e3]
    show Str.join " / " [Str.join " " (((ths.map word).drop (0 * n)).take n)] = _
    rw [Nat.zero_mul, List.drop_zero, List.take_of_length_le (by rw [List.length_map, hl, e4]; exact Nat.le_refl _)]
    rfl
  cases bd with
  | row n => exact plain n rfl rfl (fun _ => rfl) (Nat.one_mul n)
  | ring n => exact plain n rfl rfl (fun _ => rfl) (Nat.one_mul n)
  | floor h w =>
    obtain ⟨o1, o2, o3⟩ := ok
    obtain ⟨n, rfl⟩ : ∃ n, h = n + 1 := ⟨h - 1, by omega⟩
    have := words_glued (h := n + 1) o2 n 0 ths hl
    rw [Nat.zero_mul, if_neg (by decide), List.nil_append] at this
    rw [this]
    show Str.join " / " ((rowsOf (n + 1) w (ths.map word)).map (Str.join " ")) = _
    refine (join_glued ?_ ?_).symm
    · unfold rowsOf
      simp
    · intro r hr
      unfold rowsOf at hr
      obtain ⟨k, hk, rfl⟩ := List.mem_map.mp hr
      have hk' : k < n + 1 := List.mem_range.mp hk
      intro e
      have : (List.take w (List.drop (k * w) (ths.map word))).length = 0 := by rw [e]; rfl
      rw [List.length_take, List.length_drop, List.length_map, hl] at this
      have h2 : (k + 1) * w ≤ (n + 1) * w := Nat.mul_le_mul_right w hk'
      have h3 : (Bd.floor (n + 1) w).cells = (n + 1) * w := rfl
      rw [Nat.succ_mul] at h2
      omega
end Lot
namespace Lot
open PySem PySem.Spec PyProof.Rows L2
theorem join_len (s : Str) : ∀ ys : List Str, (Str.join s ys).length ≤ (ys.map (·.length)).sum + ys.length * s.length
  | [] => Nat.zero_le _
  | [x] => by
    show x.length ≤ (x.length + 0) + _
    omega
  | x :: y :: r => by
    have ih := join_len s (y :: r)
    rw [join_cons2, str_app_len, str_app_len, List.map_cons, List.sum_cons, List.length_cons, Nat.succ_mul]
    omega
theorem join_le {s : Str} {ys : List Str} {m n k : Nat} (h : ∀ z ∈ ys, z.length ≤ m) (hn : ys.length ≤ n) (hs : s.length ≤ k) : (Str.join s ys).length ≤ n * m + n * k := by
  have h0 := join_len s ys
  have h1 := sum_len h
  have h2 : ys.length * m ≤ n * m := Nat.mul_le_mul_right m hn
  have h3 : ys.length * s.length ≤ n * k := Nat.mul_le_mul hn hs
  omega
end Lot

/-! Texts read: the mathematics. -/
namespace Lot
open PySem PySem.Spec PyProof.Rows L2
def isName (z : Str) : Bool := (decide (1 ≤ z.length) && decide (z.length ≤ 4)) && z.cps.toList.all fun c => decide (c ∈ abc.cps.toList)
def minus : Str := Str.ofString "-"
/-- a word taken for a thing -/
def thingOf (z : Str) : Str × Nat := if Txt.startswith z minus = true then (cutS z (some 1) none, 1) else (z, 0)
def isDue (z : Str) (at' wide : Nat) : Bool := if at' % (wide + 1) = wide then decide (z = slash) else isName (thingOf z).1
theorem mem_abc {c : Nat} : c ∈ abc.cps.toList ↔ 97 ≤ c ∧ c ≤ 122 := by
  rw [abc_list, List.mem_map]
  constructor
  · rintro ⟨a, ha, rfl⟩
    have := List.mem_range.mp ha
    omega
  · rintro ⟨h1, h2⟩
    exact ⟨c - 97, List.mem_range.mpr (by omega), by omega⟩
theorem isName_iff {z : Str} : isName z = true ↔ NameOk z := by
  unfold isName NameOk
  rw [Bool.and_eq_true, Bool.and_eq_true, List.all_eq_true]
  constructor
  · rintro ⟨⟨h1, h2⟩, h3⟩
    exact ⟨of_decide_eq_true h1, of_decide_eq_true h2, fun c hc => mem_abc.mp (of_decide_eq_true (h3 c hc))⟩
  · rintro ⟨h1, h2, h3⟩
    exact ⟨⟨decide_eq_true h1, decide_eq_true h2⟩, fun c hc => decide_eq_true (mem_abc.mpr (h3 c hc))⟩
theorem str_ext {a b : Str} (h : a.cps.toList = b.cps.toList) : a = b := by
  obtain ⟨a⟩ := a
  obtain ⟨b⟩ := b
  exact congrArg Str.mk (Array.toList_inj.mp h)
theorem minus_is : minus = ⟨#[45]⟩ := by decide +kernel
theorem starts_iff {z : Str} : Txt.startswith z minus = true ↔ z.cps.toList[0]? = some 45 := by
  unfold Txt.startswith Builtin.Str.subAt
  rw [minus_is]
  obtain ⟨⟨l⟩⟩ := z
  cases l with
  | nil => simp [Str.length]
  | cons c r => simp [Str.length]
theorem cut_one (z : Str) : cutS z (some 1) none = ⟨(z.cps.toList.drop 1).toArray⟩ := by
  unfold cutS
  have e1 : HT.sIx z.length 0 (some 1) = min 1 z.length := HT.sIx_nat z.length 0 1
  rw [e1, HT.sIx_none]
  have hl : z.length = z.cps.toList.length := by simp [Str.length]
  rw [hl]
  congr 2
  cases z.cps.toList with
  | nil => rfl
  | cons x r =>
    rw [show min 1 (x :: r).length = 1 by rw [List.length_cons]; omega]
    show List.take ((x :: r).length - 1) r = r
    rw [List.length_cons, Nat.add_sub_cancel]
    exact List.take_length
theorem nil_app (z : Str) : (Str.ofString "" ++ z) = z := by
  have e : Str.ofString "" = ⟨#[]⟩ := by decide +kernel
  rw [e]
  show (⟨#[] ++ z.cps⟩ : Str) = z
  rw [Array.empty_append]
theorem word_up {th : Str × Nat} (h : th.2 = 0) : word th = th.1 := by
  unfold word dash
  rw [if_pos h, nil_app]
theorem word_down {th : Str × Nat} (h : th.2 ≠ 0) : (word th).cps.toList = 45 :: th.1.cps.toList := by
  unfold word dash
  rw [if_neg h]
  show ((Str.ofString "-").cps ++ th.1.cps).toList = _
  rw [Array.toList_append]
  have e : (Str.ofString "-").cps.toList = [45] := by decide +kernel
  rw [e]
  rfl
theorem name_first {z : Str} (h : NameOk z) : ∃ c r, z.cps.toList = c :: r ∧ 97 ≤ c ∧ c ≤ 122 := by
  cases e : z.cps.toList with
  | nil =>
    have h1 := h.1
    have : z.length = 0 := by
      show z.cps.size = 0
      rw [← Array.length_toList, e]; rfl
    omega
  | cons c r => exact ⟨c, r, rfl, h.2.2 c (by rw [e]; exact List.mem_cons_self)⟩
theorem thing_word {th : Str × Nat} (h : ThOk th) : thingOf (word th) = th := by
  obtain ⟨c, r, ec, c1, c2⟩ := name_first h.1
  unfold thingOf
  by_cases f : th.2 = 0
  · rw [word_up f, if_neg (fun z => by
      rw [starts_iff, ec] at z
      have : c = 45 := Option.some.inj z
      omega)]
    rw [← f]
  · have e := word_down f
    rw [if_pos (starts_iff.mpr (by rw [e]; rfl)), cut_one, e]
    have : th.2 = 1 := by have := h.2; omega
    refine Prod.ext ?_ this.symm
    show (⟨th.1.cps.toList.toArray⟩ : Str) = th.1
    rw [Array.toArray_toList]
theorem word_ne_slash {th : Str × Nat} (h : ThOk th) : word th ≠ slash := fun e => by
  have e2 := thing_word h
  rw [e] at e2
  have e3 : thingOf slash = (slash, 0) := by decide +kernel
  rw [e3] at e2
  have h1 := h.1
  rw [← e2] at h1
  have : 97 ≤ 47 := (h1.2.2 47 (by decide +kernel)).1
  omega
theorem word_no_blank {th : Str × Nat} (h : ThOk th) : 32 ∉ (word th).cps.toList := fun hm => by
  by_cases f : th.2 = 0
  · rw [word_up f] at hm
    have := (h.1.2.2 32 hm).1
    omega
  · rw [word_down f] at hm
    rcases List.mem_cons.mp hm with e | hm
    · exact absurd e (by decide)
    · have := (h.1.2.2 32 hm).1
      omega
/-! ### rows glued -/
theorem glued_len {w : Nat} : ∀ {rows : List (List Str)}, rows ≠ [] → (∀ r ∈ rows, r.length = w) → (glued rows).length + 1 = rows.length * (w + 1)
  | [], h, _ => absurd rfl h
  | [r], _, h => by
    show r.length + 1 = 1 * (w + 1)
    rw [h r List.mem_cons_self, Nat.one_mul]
  | r :: q :: rs, _, h => by
    have ih := glued_len (rows := q :: rs) (by simp) fun x hx => h x (List.mem_cons_of_mem _ hx)
    show (r ++ (slash :: glued (q :: rs))).length + 1 = _
    rw [List.length_append, List.length_cons, h r List.mem_cons_self, List.length_cons, Nat.succ_mul]
    omega
theorem glued_due {w : Nat} : ∀ {rows : List (List Str)} {j : Nat} {z : Str}, (∀ r ∈ rows, r.length = w) → (glued rows)[j]? = some z → if j % (w + 1) = w then z = slash else ∃ r ∈ rows, z ∈ r
  | [], j, z, _, e => by simp [glued] at e
  | [r], j, z, h, e => by
    have e' : r[j]? = some z := e
    have hj := (List.getElem?_eq_some_iff.mp e').1
    rw [h r List.mem_cons_self] at hj
    rw [if_neg (by rw [Nat.mod_eq_of_lt (by omega)]; omega)]
    exact ⟨r, List.mem_cons_self, List.mem_of_getElem? e'⟩
  | r :: q :: rs, j, z, h, e => by
    have hr := h r List.mem_cons_self
    have e' : (r ++ (slash :: glued (q :: rs)))[j]? = some z := e
    by_cases c : j < w
    · rw [List.getElem?_append_left (by omega)] at e'
      rw [if_neg (by rw [Nat.mod_eq_of_lt (by omega)]; omega)]
      exact ⟨r, List.mem_cons_self, List.mem_of_getElem? e'⟩
    · rw [List.getElem?_append_right (by omega), hr] at e'
      by_cases c2 : j = w
      · subst c2
        rw [Nat.sub_self] at e'
        rw [if_pos (Nat.mod_eq_of_lt (by omega))]
        exact (Option.some.inj e').symm
      · obtain ⟨k, rfl⟩ : ∃ k, j = (w + 1) + k := ⟨j - (w + 1), by omega⟩
        rw [show w + 1 + k - w = k + 1 by omega, List.getElem?_cons_succ] at e'
        have ih := glued_due (rows := q :: rs) (fun x hx => h x (List.mem_cons_of_mem _ hx)) e'
        rw [Nat.add_mod_left]
        split
        · next c3 => rw [if_pos c3] at ih; exact ih
        · next c3 =>
          rw [if_neg c3] at ih
          obtain ⟨x, hx, hz⟩ := ih
          exact ⟨x, List.mem_cons_of_mem _ hx, hz⟩
theorem glued_filter : ∀ {rows : List (List Str)}, (∀ r ∈ rows, ∀ z ∈ r, z ≠ slash) → (glued rows).filter (fun z => !decide (z = slash)) = rows.flatten
  | [], _ => rfl
  | [r], h => by
    show r.filter _ = [r].flatten
    rw [List.flatten_singleton, List.filter_eq_self.mpr]
    intro z hz
    rw [decide_eq_false (h r List.mem_cons_self z hz)]; rfl
  | r :: q :: rs, h => by
    have ih := glued_filter (rows := q :: rs) fun x hx => h x (List.mem_cons_of_mem _ hx)
    have hr : r.filter (fun z => !decide (z = slash)) = r := List.filter_eq_self.mpr fun z hz => by
      rw [decide_eq_false (h r List.mem_cons_self z hz)]; rfl
    show (r ++ (slash :: glued (q :: rs))).filter _ = (r :: q :: rs).flatten
    rw [List.filter_append, hr, List.filter_cons_of_neg (by simp), ih]
    rfl
theorem rows_flat {w : Nat} : ∀ (h : Nat) (ws : List Str), ws.length = h * w → (rowsOf h w ws).flatten = ws
  | 0, ws, e => by
    rw [Nat.zero_mul] at e
    rw [List.eq_nil_of_length_eq_zero e]
    rfl
  | h + 1, ws, e => by
    have ih := rows_flat (w := w) h (ws.drop w) (by rw [List.length_drop, e, Nat.succ_mul]; omega)
    have er : rowsOf (h + 1) w ws = ws.take w :: rowsOf h w (ws.drop w) := by
      unfold rowsOf
      rw [List.range_succ_eq_map, List.map_cons, List.map_map]
      congr 1
      · rw [Nat.zero_mul, List.drop_zero]
      · refine List.map_congr_left fun r _ => ?_
        show (ws.drop ((r + 1) * w)).take w = ((ws.drop w).drop (r * w)).take w
        rw [List.drop_drop, Nat.succ_mul, Nat.add_comm (r * w) w]
    rw [er, List.flatten_cons, ih, List.take_append_drop]
theorem rows_each {h w : Nat} {ws : List Str} (e : ws.length = h * w) : ∀ r ∈ rowsOf h w ws, r.length = w ∧ ∀ z ∈ r, z ∈ ws := by
  intro r hr
  unfold rowsOf at hr
  obtain ⟨k, hk, rfl⟩ := List.mem_map.mp hr
  have hk' := List.mem_range.mp hk
  have h2 : (k + 1) * w ≤ h * w := Nat.mul_le_mul_right w hk'
  rw [Nat.succ_mul] at h2
  refine ⟨?_, fun z hz => List.mem_of_mem_drop (List.mem_of_mem_take hz)⟩
  rw [List.length_take, List.length_drop, e]
  omega
theorem words_is {bd : Bd} {ths : List (Str × Nat)} (ok : bd.Ok 36) (hl : ths.length = bd.cells) : wordsFrom bd 0 ths = glued (rowsOf bd.high bd.wide (ths.map word)) := by
  have plain : ∀ n, bd.high = 1 → bd.wide = n → (∀ i, bd.edge i = false) → bd.cells = n → wordsFrom bd 0 ths = glued (rowsOf bd.high bd.wide (ths.map word)) := fun n e1 e2 e3 e4 => by
    rw [e1, e2, words_plain bd e3]
    show _ = ((ths.map word).drop (0 * n)).take n
    rw [Nat.zero_mul, List.drop_zero, List.take_of_length_le (by rw [List.length_map, hl, e4]; exact Nat.le_refl _)]
  cases bd with
  | row n => exact plain n rfl rfl (fun _ => rfl) (Nat.one_mul n)
  | ring n => exact plain n rfl rfl (fun _ => rfl) (Nat.one_mul n)
  | floor h w =>
    obtain ⟨o1, o2, o3⟩ := ok
    obtain ⟨n, rfl⟩ : ∃ n, h = n + 1 := ⟨h - 1, by omega⟩
    have := words_glued (h := n + 1) o2 n 0 ths hl
    rw [Nat.zero_mul, if_neg (by decide), List.nil_append] at this
    exact this
theorem Bd.pos {bd : Bd} (ok : bd.Ok 36) : 1 ≤ bd.high ∧ 1 ≤ bd.wide := by
  cases bd with
  | row n => exact ⟨Nat.le_refl _, by have := ok.1; show 1 ≤ n; omega⟩
  | ring n => exact ⟨Nat.le_refl _, by have := ok.1; show 1 ≤ n; omega⟩
  | floor h w => exact ⟨ok.1, ok.2.1⟩
/-- the words of a standing are due, are as many as are due, and tell its things -/
theorem words_due {bd : Bd} {ths : List (Str × Nat)} (ok : bd.Ok 36) (hl : ths.length = bd.cells) (hok : ∀ th ∈ ths, ThOk th) :
    (∀ j z, (wordsFrom bd 0 ths)[j]? = some z → isDue z j bd.wide = true) ∧ (wordsFrom bd 0 ths).length + 1 = bd.high * (bd.wide + 1) ∧
      ((wordsFrom bd 0 ths).filter fun z => !decide (z = slash)).map thingOf = ths := by
  have hp := Bd.pos ok
  have hwl : (ths.map word).length = bd.high * bd.wide := by rw [List.length_map, hl]; rfl
  have hrows := rows_each hwl
  have hword : ∀ z ∈ ths.map word, ∃ th ∈ ths, z = word th := fun z hz => by
    obtain ⟨th, h1, h2⟩ := List.mem_map.mp hz
    exact ⟨th, h1, h2.symm⟩
  rw [words_is ok hl]
  refine ⟨fun j z e => ?_, ?_, ?_⟩
  · have := glued_due (fun r hr => (hrows r hr).1) e
    unfold isDue
    split
    · next c => rw [if_pos c] at this; exact decide_eq_true this
    · next c =>
      rw [if_neg c] at this
      obtain ⟨r, hr, hz⟩ := this
      obtain ⟨th, h1, rfl⟩ := hword z ((hrows r hr).2 z hz)
      rw [thing_word (hok th h1)]
      exact isName_iff.mpr (hok th h1).1
  · have hne : rowsOf bd.high bd.wide (ths.map word) ≠ [] := fun e => by
      unfold rowsOf at e
      rw [List.map_eq_nil_iff, List.range_eq_nil] at e
      omega
    have := glued_len (w := bd.wide) hne fun r hr => (hrows r hr).1
    rw [this]
    unfold rowsOf
    rw [List.length_map, List.length_range]
  · rw [glued_filter, rows_flat bd.high _ hwl, List.map_map]
    · rw [List.map_congr_left (g := id), List.map_id]
      intro th hth
      exact thing_word (hok th hth)
    · intro r hr z hz
      obtain ⟨th, h1, rfl⟩ := hword z ((hrows r hr).2 z hz)
      exact word_ne_slash (hok th h1)
/-- the text of a standing, split -/
theorem text_split {bd : Bd} {ths : List (Str × Nat)} (hne : ths ≠ []) (hok : ∀ th ∈ ths, ThOk th) : Txt.split (textOf bd ths) (Str.ofString " ") = wordsFrom bd 0 ths := by
  unfold textOf
  have e : TL.tl (Str.ofString " ") = 32 :: [] := by decide +kernel
  rw [← TL.join_eq]
  refine TL.split_join e (by decide +kernel) ?_ ?_
  · cases ths with
    | nil => exact absurd rfl hne
    | cons th r =>
      show cellWords bd 0 th ++ _ ≠ []
      unfold cellWords
      simp
  · have : ∀ (l : List (Str × Nat)) (i : Nat), (∀ th ∈ l, ThOk th) → ∀ p ∈ wordsFrom bd i l, 32 ∉ TL.tl p := by
      intro l
      induction l with
      | nil => intro i _ p hp; cases hp
      | cons th r ih =>
        intro i h p hp
        rcases List.mem_append.mp hp with hp | hp
        · rcases List.mem_append.mp hp with hp | hp
          · split at hp
            · rw [List.mem_singleton.mp hp]; decide +kernel
            · cases hp
          · rw [List.mem_singleton.mp hp]
            exact word_no_blank (h th List.mem_cons_self)
        · exact ih (i + 1) (fun t ht => h t (List.mem_cons_of_mem _ ht)) p hp
    exact this ths 0 hok
end Lot

/-! repr of data: exact where nothing is being shown already (no guards stand around); a def called there; a row's law called from outside. -/
namespace Lot
open PySem PySem.Spec PyProof.Rows L2
/-- what a def does where nothing is being shown -/
def GRun (P : Program) (w : World) (K : PySem.W.Frag) (mg : Str → Option Value) (base : Heap) (CX : CXT) (k : Nat) (f : Addr) (fd : FuncData) (ps : List Str) (sp : Sp) : Prop :=
  ∀ (A : Around) (outer : List Env) (s : Shared) (H : Hp) (args : Args) (us : List Value) (vs : List V) (Q : VK) (E : XK),
    A.guards = some [] → Room k A → Env0 P w K mg base A outer s H → BindsTo s fd args (ps.zip us) → Vals vs us → sp vs H Q E →
      codeAny (model P w) A (.call (.ref f) args) (CR CX outer P w H s Q E) s
/-- repr of a thing that is data -/
def rReprD (K : PySem.W.Frag) : List V → Hp → VK → Prop := fun xs H Q => ∃ (a : Addr) (d : PyData), xs = [.ref a] ∧ Dp K H (.ref a) d ∧ d.showable = true ∧ d.hasDict = false ∧ d.depth ≤ 50 ∧ d.shown.length ≤ sizeLine ∧ Q (.str d.shown) H
theorem call_reprD {X : Cx} {k : Nat} (hG : X.A.guards = some []) (hr : Room k X.A) : CallR X (.builtin "repr") (rReprD X.K) := by
  intro pins s σ H xs us Q I r h
  obtain ⟨a, d, rfl, hd, h1, h2, h3, h4, q⟩ := h
  obtain ⟨u, rfl, ru⟩ := vals1 r
  obtain ⟨as, rd⟩ := Dp.reads I d _ u hd ru
  cases ru
  have un := hr.units
  exact repr_of_reads' rd h1 (fun z => by rw [h2] at z; cases z) hG (by omega) (fun _ _ e => e) (fun h' u tk kp => ⟨.str d.shown, H, I.kept kp, ⟨u, rfl⟩, q⟩) h4
/-- repr of an int, or of a thing that is data -/
def rReprV (K : PySem.W.Frag) : List V → Hp → VK → Prop := fun xs H Q => ∃ (x : V) (d : PyData), xs = [x] ∧ ((∃ i, x = .int i) ∨ ∃ a, x = .ref a) ∧ Dp K H x d ∧ d.showable = true ∧ d.hasDict = false ∧ d.depth ≤ 50 ∧ d.shown.length ≤ sizeLine ∧ Q (.str d.shown) H
theorem call_reprV {X : Cx} {k : Nat} (hG : X.A.guards = some []) (hr : Room k X.A) : CallR X (.builtin "repr") (rReprV X.K) := by
  intro pins s σ H xs us Q I r h
  obtain ⟨x, d, rfl, hx, hd, h1, h2, h3, h4, q⟩ := h
  rcases hx with ⟨i, rfl⟩ | ⟨a, rfl⟩
  · obtain ⟨u, rfl, t, rfl⟩ := vals1 r
    cases hd
    have hz : i.natAbs.log2 < 1920 := of_decide_eq_true h1
    exact PySem.P.repr_of_int hz ⟨.str _, H, I.tok _, ⟨_, rfl⟩, q⟩
  · exact call_reprD hG hr pins s σ H _ us Q I r ⟨a, d, rfl, hd, h1, h2, h3, h4, q⟩
section
variable {CX : CXT} {P : Program} {w : World} {K : PySem.W.Frag} {mg : Str → Option Value} {base : Heap}
theorem g_of {k : Nat} {f : Addr} {x qual : Str} {st : Stmt} {fd : FuncData} {N ps : List Str} {sp : Sp} (F : Fun K x qual st f fd) (S : FnScope N ps (defScope st)) (len : ∀ vs H Q E, sp vs H Q E → vs.length = ps.length)
    (body : ∀ (cdv : Value) (A : Around) (outer : List Env) (s : Shared) (H : Hp) (vs : List V) (Q : VK) (E : XK), A.guards = some [] → Room k (A.deeper (envOfC qual (defScope st) s.heap.objs.size f cdv)) → sp vs H Q E →
      ∃ t, PSs (cxOf CX P w K mg base N qual (defScope st) f cdv A outer s H E) (defBody st) t ∧ t { nx := fun _ H' => Q .non H', rt := Q } (start N vs) H) :
    GRun P w K mg base CX (k + 1) f fd ps sp := by
  intro A outer s H args us vs Q E hG hr e0 hb rv hsp
  obtain ⟨oc, od, kV, doc, pm, an, cdv, ct, osl, rfl, lk, hcd⟩ := F.ex
  have n1 := len _ _ _ _ hsp
  have inS : ∀ b o, base.get? b = some o → s.heap.get? b = some o := fun b o e => (e0.bs b o e).1
  have KS : K.In s.heap := e0.mod.kin.keeps inS
  have LS : s.heap.NoLimit := e0.mod.nolimit.keeps inS
  refine codeAny_call_function hr.depth (KS _ _ lk) rfl S.co S.gen rfl (PySem.W.codeRec_of KS hcd) (hb _ _ _ _ ?_)
  have kinds : ∀ y ∈ ps.zip us, (defScope st).names.lookup y.1 = some .local ∨ ((defScope st).names.lookup y.1 = some .cell ∧ ((cellsFrom (s.heap.objs.size + 1) (defScope st).names []).lookup y.1).isSome = true) := by
    rintro ⟨n, v⟩ hy
    have hp := S.par n (List.of_mem_zip hy).1
    exact hp.imp_right fun c => ⟨c, PySem.W.cellsFrom_some _ _ _ (.inl c)⟩
  refine wpAny_newFunctionEnv_cells S.kind kinds fun env he s1 x => ?_
  subst he
  obtain ⟨t, ht, hq⟩ := body cdv A outer s H vs Q E hG (hr.deeper _) hsp
  have I := inv_start (CX := CX) (E := E) S hr.hd e0 n1 rv x
  refine ⟨LS.keeps x.toInCall.keep, codeAny_func (wpAny_mono (ht.run [] s1 (start N vs) H _ I hq) (fun fl s2 hs => ?_) fun _ _ z => z)⟩
  match fl, hs with
  | .ret u, ⟨v, σ2, H2, J, rv2, q⟩ => exact ⟨v, H2, J.os, J.bare, J.base, J.hok, rv2, q⟩
  | .next, ⟨σ2, H2, J, q⟩ => exact ⟨V.non, H2, J.os, J.bare, J.base, J.hok, rfl, q⟩
  | .brk, ⟨_, _, _, q⟩ => exact q.elim
  | .cont, ⟨_, _, _, q⟩ => exact q.elim
/-- the same of a def that lets nothing out -/
theorem g_ok {k : Nat} {f : Addr} {x qual : Str} {st : Stmt} {fd : FuncData} {N ps : List Str} {sp : Sp} (F : Fun K x qual st f fd) (S : FnScope N ps (defScope st)) (len : ∀ vs H Q E, sp vs H Q E → vs.length = ps.length)
    (body : ∀ (cdv : Value) (A : Around) (outer : List Env) (s : Shared) (H : Hp) (vs : List V) (Q : VK) (E : XK), A.guards = some [] → Room k (A.deeper (envOfC qual (defScope st) s.heap.objs.size f cdv)) → sp vs H Q E →
      ∃ t, PSs (cxOf CX0 P w K mg base N qual (defScope st) f cdv A outer s H E).nox (defBody st) t ∧ t { nx := fun _ H' => Q .non H', rt := Q } (start N vs) H) :
    GRun P w K mg base CX0 (k + 1) f fd ps sp :=
  g_of F S len fun cdv A outer s H vs Q E hG hr hs => by
    obtain ⟨t, h, q⟩ := body cdv A outer s H vs Q E hG hr hs
    exact ⟨t, h.nox, q⟩
end
end Lot
namespace Lot
open PySem PySem.Spec PyProof.Rows L2
section
variable {CX : CXT} {P : Program} {w : World} {K : PySem.W.Frag} {mg mb : Str → Option Value}
/-- what is tracked as a row's law is called: the script, if it is no object of the module's own -/
def onlyScript (K : PySem.W.Frag) (a : Addr) (o : Obj) (xs : List V) : Hp := fun b => if b = a ∧ K.lookup a = none then some (.frz o (.lst xs)) else none
theorem onlyScript_some {a b : Addr} {o : Obj} {xs : List V} {u : HO} (h : onlyScript K a o xs b = some u) : b = a ∧ K.lookup a = none ∧ u = .frz o (.lst xs) := by
  unfold onlyScript at h
  by_cases c : b = a ∧ K.lookup a = none
  · rw [if_pos c] at h
    exact ⟨c.1, c.2, (Option.some.inj h).symm⟩
  · rw [if_neg c] at h
    cases h
theorem row_call {fa a : Addr} {s : Shared} {vs : List Value} {ns : List Int} (KS : K.In s.heap) (gS : s.heap.Ns mainGlobals mg) (bS : s.heap.Ns builtinsNs mb) (bb : ∀ x : Str, x ≠ "__name__" → mb x = bootBuiltins x) (lS : s.heap.NoLimit) (gens : s.gens = #[])
    (at_a : s.heap.get? a = some { cls := .type "list", data := .seq vs.toArray }) (hi : IntsAre vs ns) (few : ns.length ≤ sizeLine)
    (run : ∀ base H, K.In base → base.Ns mainGlobals mg → Only H → SqL K H a (ns.map V.int) → Env0 P w K mg base callerA [] s H →
      codeAny (model P w) callerA (.call (.ref fa) ⟨[.ref a], []⟩) (CR CX [] P w H s (fun v _ => v = .bl true) fun _ _ _ => False) s)
    (noX : ∀ H e s', CX [] H s (fun _ _ _ => False) e s' → False) :
    codeAny (model P w) callerA (.call (.ref fa) ⟨[.ref a], []⟩) (fun r s' => r = .ok (.ret (.bool true)) ∧ OldK s.heap s'.heap ∧ s'.os = s.os ∧ AllBare s'.gens) s := by
  have rv := vals_ints hi
  have same := hi.length
  obtain ⟨o, ho⟩ : ∃ o : Obj, o = { cls := .type "list", data := .seq vs.toArray } := ⟨_, rfl⟩
  rw [← ho] at at_a
  obtain ⟨H, hH⟩ : ∃ H, H = onlyScript K a o (ns.map V.int) := ⟨_, rfl⟩
  have told : ∀ {b u}, H b = some u → b = a ∧ K.lookup a = none ∧ u = .frz o (.lst (ns.map V.int)) := fun {b u} e => by
    rw [hH] at e
    exact onlyScript_some e
  have only : Only H := fun b => by
    cases e : H b with
    | none => exact .inl rfl
    | some u =>
      obtain ⟨_, _, rfl⟩ := told e
      exact .inr ⟨_, _, rfl⟩
  have hok : HOk P w H s.heap := fun b u e => by
    obtain ⟨rfl, _, rfl⟩ := told e
    subst ho
    exact ⟨at_a, by rw [List.length_map]; exact few, vs, _, rv, at_a⟩
  have list : SqL K H a (ns.map V.int) := by
    cases e : K.lookup a with
    | none => exact .inl (.inr ⟨o, by rw [hH]; unfold onlyScript; rw [if_pos ⟨rfl, e⟩]⟩)
    | some o2 =>
      have e2 := KS a o2 e
      rw [at_a] at e2
      cases e2
      subst ho
      exact .inr ⟨_, vs.toArray, _, e, rfl, rfl, rfl, by rw [List.size_toArray, same]; exact few, by simpa using rv⟩
  have untold : ∀ {b : Addr} {u : Obj}, s.heap.get? b = some u → (K.lookup b = some u ∨ ∃ es ep, u.data = .dict es ep) → H b = none := fun {b u} e c => by
    cases q : H b with
    | none => rfl
    | some t =>
      obtain ⟨rfl, k, _⟩ := told q
      rcases c with c | ⟨es, ep, c⟩
      · rw [k] at c; cases c
      · rw [at_a] at e
        cases e
        subst ho
        cases c
  have names : ∀ {b : Addr} {m : Str → Option Value}, s.heap.Ns b m → (hidT s.heap H).Ns b m := fun {b m} ⟨u, es, ep, e, d, r⟩ => ⟨u, es, ep, hidT_get e (untold e (.inr ⟨es, ep, d⟩)), d, r⟩
  have KB : K.In (hidT s.heap H) := fun b u e => hidT_get (KS b u e) (untold (KS b u e) (.inl e))
  have mod : Mod K mg (hidT s.heap H) := ⟨KB, names gS, ⟨mb, names bS, bb⟩, by obtain ⟨mc, h1, h2⟩ := lS; exact ⟨mc, names h1, h2⟩⟩
  have e0 : Env0 P w K mg (hidT s.heap H) callerA [] s H := ⟨rfl, mod, fun b u e => of_hidT e, Nat.le_of_eq (hidT_size _ _), trivial, fun b hb => (List.not_mem_nil hb).elim, hok, .of_eq gens⟩
  refine codeAny_mono (run _ H KB (names gS) only list e0) fun r s' h => ?_
  match r, h with
  | .error e, h => exact (noX H e s' h).elim
  | .ok .next, h => exact h.elim
  | .ok .brk, h => exact h.elim
  | .ok .cont, h => exact h.elim
  | .ok (.ret u), ⟨v, H', os, bare, un, hok', r', q⟩ =>
    obtain rfl : v = .bl true := q
    obtain rfl : u = Value.bool true := r'
    refine ⟨rfl, OldK.of_keep fun b u e => ?_, os, bare⟩
    cases q : H b with
    | none => exact un.keep b u e q (fun z => (List.not_mem_nil (show b ∈ ([] : List Addr) from z)).elim) (fun z => (List.not_mem_nil z).elim)
    | some t =>
      obtain ⟨rfl, _, rfl⟩ := told q
      have k := un.frzs b o _ q
      obtain ⟨e1, _⟩ := hok b _ q
      obtain ⟨e2, _⟩ := hok' b _ k
      rw [e] at e1
      cases e1
      exact e2
end
/-- a row's law by what its def does where nothing is being shown -/
theorem walk_g {l : PySem.W.OpenLaw} {n k : Nat} {q : Program} {loose : List Str} {XP : (Str → Option Value) → Heap → Prop} {YP : World → Heap → Prop} {d : DefRec} {K : Params → PySem.W.Frag} {CX : World → CXT} {sp : World → Sp} {x : Str}
    (hn : l.most = some n) (hn2 : n ≤ sizeLine) (hdf : d.params.defaults = []) (hr : Room k callerA) (hY : ∀ w h, YP w h → (K w.params).In h)
    (F : ∀ (w : World) (mg : Str → Option Value) (fa : Addr) (h : Heap), (K w.params).In h → h.Ns mainGlobals mg → mg d.name = some (.ref fa) →
      ∃ fd : FuncData, (∀ (s : Shared) (u : Value), BindsTo s fd ⟨[u], []⟩ [(x, u)]) ∧ ∀ base : Heap, (K w.params).In base → base.Ns mainGlobals mg → GRun l.prog w (K w.params) mg base (CX w) k fa fd [x] (sp w))
    (hsp : ∀ (w : World) (H : Hp) (a : Addr) (ns : List Int), ns.length ≤ n → Only H → SqL (K w.params) H a (ns.map V.int) → sp w [.ref a] H (fun v _ => v = .bl true) fun _ _ _ => False)
    (hCX : ∀ (w : World) (H : Hp) (s : Shared) (e : Value) (s' : Shared), CX w [] H s (fun _ _ _ => False) e s' → False) :
    PySem.W.WalkO q loose XP YP l.row.toRowW d [] (fun f vs => PySem.call f vs) := by
  refine Att.attach_call hn hdf fun w s0 s1 mg mb fa o pm cd doc a vs ns G Y ho hd hcd hmg hobj hints hlen hg => ?_
  obtain ⟨fd, hb, hF⟩ := F w mg fa _ (hY w _ Y) G.T.g hmg
  refine row_call (hY w _ Y) G.T.g G.T.b G.T.builtins G.T.nolimit hg hobj hints (Nat.le_trans hlen hn2) (fun base H k1 k2 k3 k4 e0 => ?_) fun H e s' => hCX w H s1 e s'
  exact hF base k1 k2 callerA [] s1 H ⟨[.ref a], []⟩ [.ref a] [.ref a] _ _ rfl hr e0 (hb s1 (.ref a)) (.cons rfl .nil) (hsp w H a ns hlen k3 k4)
end Lot
/-! ### standings as data -/
namespace Lot
open PySem PySem.Spec PyProof.Rows L2
def dth (th : Str × Nat) : PyData := .tuple [.str th.1, .int th.2]
def dStand (ths : List (Str × Nat)) : PyData := .tuple (ths.map dth)
theorem dStand_inj : ∀ {a b : List (Str × Nat)}, a.map dth = b.map dth → a = b
  | [], [], _ => rfl
  | [], _ :: _, h => by cases h
  | _ :: _, [], h => by cases h
  | (x, i) :: a, (y, j) :: b, h => by
    have h' : dth (x, i) :: a.map dth = dth (y, j) :: b.map dth := h
    obtain ⟨h1, h2⟩ := List.cons.inj h'
    have h3 : PyData.tuple [.str x, .int (i : Int)] = .tuple [.str y, .int (j : Int)] := h1
    obtain ⟨h4, h5⟩ := List.cons.inj (PyData.tuple.inj h3)
    have h6 := (List.cons.inj h5).1
    have e1 : x = y := PyData.str.inj h4
    have e2 : i = j := Int.ofNat.inj (PyData.int.inj h6)
    rw [e1, e2, dStand_inj h2]
theorem Things.data {K : PySem.W.Frag} {H : Hp} : ∀ {as : List Addr} {ths : List (Str × Nat)}, Things H as ths → DpAll K H (as.map V.ref) (ths.map dth)
  | [], [], _ => .nil
  | a :: as, t :: ts, h => .cons (.tup (.inl (.inl h.1)) (.cons (.str _) (.cons (.int _) .nil))) (Things.data h.2)
  | [], _ :: _, h => h.elim
  | _ :: _, [], h => h.elim
theorem StandAt.data {K : PySem.W.Frag} {H : Hp} {t : Addr} {ths : List (Str × Nat)} (h : StandAt H t ths) : Dp K H (.ref t) (dStand ths) := by
  obtain ⟨as, e, g⟩ := h
  exact .tup (.inl (.inl e)) g.data
theorem dAll_show : ∀ {ths : List (Str × Nat)}, (∀ th ∈ ths, ThOk th) → PyData.showableAll (ths.map dth) = true
  | [], _ => rfl
  | th :: r, h => by
    have ih := dAll_show fun x hx => h x (List.mem_cons_of_mem _ hx)
    have h2 := (h th List.mem_cons_self).2
    show (PyData.showable (dth th) && PyData.showableAll (r.map dth)) = true
    rw [ih, Bool.and_true]
    have : PyData.showable (dth th) = (true && (decide (((th.2 : Int)).natAbs.log2 < 1920) && true)) := rfl
    rw [this]
    have h3 : th.2 = 0 ∨ th.2 = 1 := by omega
    rcases h3 with h3 | h3 <;> rw [h3] <;> decide
theorem dAll_plain : ∀ (ths : List (Str × Nat)), PyData.hasDictAll (ths.map dth) = false
  | [] => rfl
  | th :: r => by
    show (PyData.hasDict (dth th) || PyData.hasDictAll (r.map dth)) = false
    rw [dAll_plain r]
    rfl
theorem dAll_depth : ∀ (ths : List (Str × Nat)), PyData.depthAll (ths.map dth) ≤ 1
  | [] => Nat.zero_le _
  | th :: r => by
    have ih := dAll_depth r
    show max (PyData.depth (dth th)) (PyData.depthAll (r.map dth)) ≤ 1
    have : PyData.depth (dth th) = 1 := rfl
    omega
theorem tuple_le {ts : List Str} {m n : Nat} (h : ∀ t ∈ ts, t.length ≤ m) (hn : ts.length ≤ n) : (tupleText ts).length ≤ n * (m + 2) + 2 := by
  have h1 := PySem.fmt_text ts
  have h2 : piled ts ≤ ts.length * (m + 2) := by
    clear hn h1
    induction ts with
    | nil => exact Nat.zero_le _
    | cons t r ih =>
      have := ih fun x hx => h x (List.mem_cons_of_mem _ hx)
      have := h t List.mem_cons_self
      rw [piled_cons, List.length_cons, Nat.succ_mul]
      omega
  have h3 : ts.length * (m + 2) ≤ n * (m + 2) := Nat.mul_le_mul_right _ hn
  omega
theorem dth_len {th : Str × Nat} (h : ThOk th) : (PyData.shown (dth th)).length ≤ 2 * (50 + 2) + 2 := by
  show (tupleText [reprText th.1, toString ((th.2 : Nat) : Int)]).length ≤ _
  refine tuple_le (m := 50) (n := 2) (fun t ht => ?_) (Nat.le_refl _)
  rcases List.mem_cons.mp ht with rfl | ht
  · have := StrLaws.reprText_len th.1 fun c hc => by
      have := (h.1.2.2 c hc).2
      have e : 123 < 16 ^ 8 := by decide
      omega
    have h4 := h.1.2.1
    omega
  · rw [List.mem_singleton.mp ht]
    have h3 : th.2 = 0 ∨ th.2 = 1 := by have := h.2; omega
    rcases h3 with h3 | h3 <;> rw [h3] <;> decide +kernel
theorem shownAll_map : ∀ (ths : List (Str × Nat)), PyData.shownAll (ths.map dth) = ths.map fun th => PyData.shown (dth th)
  | [] => rfl
  | th :: r => by
    show PyData.shown (dth th) :: PyData.shownAll (r.map dth) = _
    rw [shownAll_map r]
    rfl
/-- what repr asks of a standing -/
theorem dStand_ok {ths : List (Str × Nat)} (h : ∀ th ∈ ths, ThOk th) (hl : ths.length ≤ 2000) : (dStand ths).showable = true ∧ (dStand ths).hasDict = false ∧ (dStand ths).depth ≤ 50 ∧ (dStand ths).shown.length ≤ sizeLine := by
  refine ⟨dAll_show h, dAll_plain ths, ?_, ?_⟩
  · have := dAll_depth ths
    show PyData.depthAll (ths.map dth) + 1 ≤ 50
    omega
  · show (tupleText (PyData.shownAll (ths.map dth))).length ≤ sizeLine
    rw [shownAll_map]
    refine Nat.le_trans (tuple_le (m := 106) (n := 2000) (fun t ht => ?_) (by rw [List.length_map]; exact hl)) (by decide)
    obtain ⟨th, hth, rfl⟩ := List.mem_map.mp ht
    exact dth_len (h th hth)
end Lot

/-! An own exception over ValueError (perhaps through other own classes) whose __init__ hands a text to super().__init__ and keeps one field. -/
namespace Lot
open PySem PySem.Spec PyProof.Rows PySem.W PySem.Calls
/-- what the written part says of the class at C, its __init__ at fI (the text st), the field fld, the text's expression msg -/
structure SupTxt (prog : Program) (K : Frag) (st : Stmt) (qual fld : Str) (msg : Expr) (C fI cc cda : Addr) : Prop where
  cls : ∃ nm q N bs bm sn sub ab col dd k0 k1 k2 k3 k5, K.lookup C = some (excClassObj nm q C N bs bm true sn sub ab col dd k0 k1 k2 k3 k5 "ValueError.__new__") ∧ HandSPX.refsVE bm = true
  sa : findIn K (.ref C) "__setattr__" = some (some (.builtin "object.__setattr__"))
  ga : findIn K (.ref C) "__getattribute__" = some (some (.builtin "BaseException.__getattribute__"))
  gg : findIn K (.ref C) "__getattr__" = some none
  no : findIn K (.ref C) fld = some none
  iC : findIn K (.ref C) "__init__" = some (some (.ref fI))
  tI : typeIn K (.ref fI) = some (.type "function")
  kC : keepIn K (.ref C) = true
  exC : subIn K (.ref C) (.type "BaseException") = some true
  vE : subIn K (.ref C) (.type "ValueError") = some true
  tyC : typeIn K (.ref C) = some (.type "type")
  hdC : hasDictIn K C = true
  te : exmOne K (.ref C) (.ref C) = some true
  op : nsIn K cStatics "thirdparty.any" = some none
  mr : mroIn K C (.ref C) = some true
  su : ks_superIn K C C "__init__" = some (some (.builtin "ValueError.__init__"))
  ns : nsIn K mainGlobals "super" = some none
  fn : ∃ oc od kV doc pm an ct osl, K.lookup fI = some ⟨oc, od, .func (ksFn "__init__" qual (L2.defArgs st) (L2.defBody st) (L2.defScope st) .none kV doc pm an (.ref cda) ct cc), osl⟩ ∧
    (∀ (s : Shared) (x : Addr) (v : Value), BindsTo s (ksFn "__init__" qual (L2.defArgs st) (L2.defBody st) (L2.defScope st) .none kV doc pm an (.ref cda) ct cc) ⟨[.ref x, v], []⟩ [("self", .ref x), (fld, v)])
  cd : codeIn K (.ref cda) qual = true
  file : ∃ ccl cdd vs ccs file tf, K.lookup cda = some ⟨ccl, cdd, .fields vs, ccs⟩ ∧ vs[2]? = some (.str file tf) ∧ ((prog.main.file : Str) == file) = true
  cell : ∃ cl cld csl, K.lookup cc = some ⟨cl, cld, .cell (some (.ref C)), csl⟩
  top : (prog.main.scope.names.lookup ("super" : Str)).isSome = false
/-- .. and of its text -/
structure SupText (st : Stmt) (fld : Str) (msg : Expr) : Prop where
  body : ∃ p0 p1 p2 p3 p4 q1 q2 q3 q4, L2.defBody st = [.Expr (.Call (.Attribute (.Call (.Name "super" p0) [] [] p1) "__init__" p2) [msg] [] p3) p4, .Assign [.Attribute (.Name "self" q1) fld q2] (.Name fld q3) q4] ∧
    ∃ pl : Sem Bool, ∀ env, eval (.Call (.Attribute (.Call (.Name "super" p0) [] [] p1) "__init__" p2) [msg] [] p3) env = (do
      let ov ← attributeBase (.Call (.Name "super" p0) [] [] p1) "__init__" env (eval (.Call (.Name "super" p0) [] [] p1) env)
      standAt p2.atName
      let (f, first) ← holding [ov] (getMethod ov "__init__" pl)
      callWith p3 f first (backTo p3 (starEach [msg] env)) [])
  star : ∀ env, starEach [msg] env = [(false, eval msg env)]
  scope : L2.defScope st = { kind := .function, names := [(Str.ofString "self", .local), (fld, .local), (Str.ofString "__class__", .free), (Str.ofString "super", .globalImplicit)], isGenerator := false, isCoroutine := false, more := [] }
  head : ((L2.defArgs st).posonlyargs ++ (L2.defArgs st).args).head?.map (·.arg) = some ("self" : Str)
  ne : ((Str.ofString "self") == fld) = false ∧ ((Str.ofString "__class__") == fld) = false ∧ ((Str.ofString "super") == fld) = false ∧ (fld == ("__debug__" : Str)) = false ∧ (fld == (Str.ofString "self")) = false
/-- what is left of a fresh exception at x -/
structure SupEnd (h h' : Heap) (x C dx t1 : Addr) (fld : Str) (v : Value) : Prop where
  keep : ∀ b o, b ≠ x → h.get? b = some o → h'.get? b = some o
  obj : h'.get? x = some { cls := .ref C, dict := some dx, data := .fields #[.ref t1, .none, .none, .none, .bool false, .none] }
  dbig : h.objs.size ≤ dx
  dne : dx ≠ x
  ns : h'.Ns1 dx (fun y => if y = fld then some v else none)
/-- the text's expression gives a text, and changes nothing -/
def MsgOk (prog : Program) (w : World) (msg : Expr) (fld : Str) (ok : Value → Prop) : Prop :=
  ∀ (A : Around) (E : Value → Shared → Prop) (Q : Value → Shared → Prop) (env : Env) (v : Value) (s : Shared) (m : Str → Option Value), env.scope.kind = .function → env.kindOf fld = some .local → s.heap.Ns env.locals m → m fld = some v → ok v →
    (∀ z tk tk2, Q (.str z tk) { s with toks := tk2 }) → wpAny (model prog w) A (eval msg env) Q E s
section
variable {prog : Program} {w : World} {A : Around} {R : Result → Shared → Prop} {K : Frag} {mg mb : Str → Option Value} {st : Stmt} {qual fld : Str} {msg : Expr} {C fI cc cda : Addr} {ok : Value → Prop}
theorem kept_but {h h' : Heap} {x : Addr} (X : K.In h) (hx : K.lookup x = none) (k : ∀ b o, b ≠ x → h.get? b = some o → h'.get? b = some o) : K.In h' := fun a o e =>
  k a o (fun z => by rw [z, hx] at e; cases e) (X a o e)
theorem sup_init (T : SupTxt prog K st qual fld msg C fI cc cda) (Tx : SupText st fld msg) (M : MsgOk prog w msg fld ok) {s : Shared} {x t0 : Addr} {v : Value} (KS : K.In s.heap) (gS : s.heap.Ns mainGlobals mg) (bS : s.heap.Ns builtinsNs mb)
    (bb : ∀ y : Str, y ≠ "__name__" → mb y = bootBuiltins y) (lS : s.heap.NoLimit) (hx : s.heap.get? x = some (HandSPX.excO C t0)) (hxK : K.lookup x = none) (room : A.depth < recursionLimit) (hv : ok v)
    (hq : ∀ h' tk dx t1, SupEnd s.heap h' x C dx t1 fld v → R (.ok (.ret .none)) { s with heap := h', toks := tk }) :
    codeAny (model prog w) A (.call (.ref fI) ⟨[.ref x, v], []⟩) R s := by
  obtain ⟨oc, od, kV, doc, pm, an, ct, osl, lk, hbind⟩ := T.fn
  obtain ⟨nm, q, N, bs, bm, sn, sub, ab, col, dd, k0, k1, k2, k3, k5, hC, hbm⟩ := T.cls
  obtain ⟨ccl, cdd, vs, ccs, file, tf, hcode, hvs, hfile⟩ := T.file
  obtain ⟨cl, cld, csl, hcell⟩ := T.cell
  obtain ⟨p0, p1, p2, p3, p4, q1, q2, q3, q4, eb, pl, heval⟩ := Tx.body
  have es := Tx.scope
  obtain ⟨n1, n2, n3, n4, n5⟩ := Tx.ne
  have hcl : clsIn K C = some { name := nm, bases := bs, mro := .ref C :: bm, ns := N, qualname := q, hasDict := true, slotNames := sn, subclasses := sub, abstract := ab, collection := col, hasDel := false } := by unfold clsIn; rw [hC] <;> rfl
  have lself : List.lookup (Str.ofString "self") (L2.defScope st).names = some .local := by rw [es]; rfl
  have lfld : List.lookup fld (L2.defScope st).names = some .local := by
    rw [es]
    show List.lookup fld [(Str.ofString "self", NameKind.local), (fld, .local), _, _] = _
    rw [List.lookup_cons, n5, List.lookup_cons]
    simp
  have lcl : List.lookup (Str.ofString "__class__") (L2.defScope st).names = some .free := by
    rw [es]
    show List.lookup (Str.ofString "__class__") [(Str.ofString "self", NameKind.local), (fld, .local), (Str.ofString "__class__", .free), _] = _
    rw [List.lookup_cons, show (Str.ofString "__class__" == Str.ofString "self") = false by decide +kernel, List.lookup_cons, n2]
    rfl
  have lsu : List.lookup (Str.ofString "super") (L2.defScope st).names = some .globalImplicit := by
    rw [es]
    show List.lookup (Str.ofString "super") [(Str.ofString "self", NameKind.local), (fld, .local), (Str.ofString "__class__", .free), (Str.ofString "super", .globalImplicit)] = _
    rw [List.lookup_cons, show (Str.ofString "super" == Str.ofString "self") = false by decide +kernel, List.lookup_cons, n3]
    rfl
  have kf : (L2.defScope st).kind = .function := by rw [es]
  refine ks_codeAny_call_defAt (body := L2.defBody st) (binds := [("self", .ref x), (fld, v)]) room (KS _ _ lk) rfl lS (codeRec_of KS T.cd) rfl (hbind s x v) ?_ ?_ (fun h1 ns1 k1' => ?_) (by show (L2.defScope st).isCoroutine = false; rw [es]) (by show (L2.defScope st).isGenerator = false; rw [es]) kf
  · show ∀ y ∈ (L2.defScope st).names, y.2 ≠ .cell
    rw [es]
    intro y hy
    simp only [List.mem_cons, List.not_mem_nil, or_false] at hy
    rcases hy with rfl | rfl | rfl | rfl <;> exact fun z => NameKind.noConfusion z
  · intro y hy
    simp only [List.mem_cons, List.not_mem_nil, or_false] at hy
    rcases hy with rfl | rfl
    · exact lself
    · exact lfld
  obtain ⟨L, hL⟩ : ∃ L, L = s.heap.objs.size := ⟨_, rfl⟩
  rw [← hL] at ns1
  rw [← hL]
  have X1 : K.In h1 := KS.keeps k1'
  have hx1 := k1' _ _ hx
  have self1 : [(Str.ofString "self", Value.ref x), (fld, v)].reverse.lookup (Str.ofString "self") = some (.ref x) := by
    show List.lookup (Str.ofString "self") [(fld, v), (Str.ofString "self", Value.ref x)] = _
    rw [List.lookup_cons, n1]
    simp
  have fld1 : [(Str.ofString "self", Value.ref x), (fld, v)].reverse.lookup fld = some v := by
    show List.lookup fld [(fld, v), (Str.ofString "self", Value.ref x)] = _
    rw [List.lookup_cons]
    simp
  obtain ⟨ar, har, hname⟩ : ∃ ar : Arg, ((L2.defArgs st).posonlyargs ++ (L2.defArgs st).args).head? = some ar ∧ ar.arg = Str.ofString "self" := by
    have := Tx.head
    cases e : ((L2.defArgs st).posonlyargs ++ (L2.defArgs st).args).head? with
    | none => rw [e] at this; cases this
    | some ar =>
      rw [e] at this
      exact ⟨ar, rfl, Option.some.inj this⟩
  show PySem.wpAt _ (A.deeper (ksEnv qual (L2.defScope st) L fI (.ref cda) cc)) (.func (L2.defBody st) (ksEnv qual (L2.defScope st) L fI (.ref cda) cc)) (execs (L2.defBody st) (ksEnv qual (L2.defScope st) L fI (.ref cda) cc)) _ _ _
  generalize hbody : L2.defBody st = body at *
  obtain rfl := eb
  have hi : interactive (ksEnv qual (L2.defScope st) L fI (.ref cda) cc) = false := by
    show ((L2.defScope st).kind == .module && _) = false
    rw [kf]
    rfl
  refine ks_wpAt_execs_cons (ks_wpAt_Expr_any (ks_wpAt_MethodCall (pl := pl) ?_ (heval _)) hi)
  refine ks_wpAt_super_base (env := ksEnv qual (L2.defScope st) L fI (.ref cda) cc) (fd := ksFn "__init__" qual (L2.defArgs st) _ (L2.defScope st) .none kV doc pm an (.ref cda) ct cc) lsu lcl (by decide +kernel) rfl (X1 _ _ lk) rfl har rfl (X1 _ _ hcode) rfl hvs hfile T.top ?_
  refine ks_loadName_global kf lsu (loadGlobal_builtin (env := ksEnv qual (L2.defScope st) L fI (.ref cda) cc) (gS.keeps k1') ?sg (bS.keeps k1') ((bb _ (by decide +kernel)).trans PyProof.Rows.Boot.«super») ⟨rfl, ?_⟩)
  case sg => exact mg_none_of KS gS T.ns
  refine wpAny_loadName_free kf lcl rfl ⟨_, X1 _ _ hcell, rfl⟩ ?_
  rw [hname]
  refine wpAny_loadName_local kf lself ns1 self1 ?_
  obtain ⟨oD, hD1, hD2⟩ : ∃ oD, h1.get? C = some oD ∧ oD.data = .cls { name := nm, bases := bs, mro := .ref C :: bm, ns := N, qualname := q, hasDict := true, slotNames := sn, subclasses := sub, abstract := ab, collection := col, hasDel := false } := ⟨_, X1 _ _ hC, rfl⟩
  refine ks_wpAny_isType_cls hD1 hD2 ⟨rfl, ?_⟩
  refine ks_wpAny_call_super hD1 hD2 hx1 rfl (fun c e => by cases e) (looks_mroIn X1 T.mr) (fun h2 e2 k2 => ?_)
  have X2 : K.In h2 := X1.keeps k2
  have hx2 := k2 _ _ hx1
  have I2 : InstAt h2 x (HandSPX.excO C t0) C none := ⟨hx2, rfl, rfl, trivial⟩
  have su := T.su
  unfold ks_superIn at su
  rw [hcl] at su
  refine kxs_getMethod kxs_ValueError e2 (looks_opaque X2 T.op) (l₀ := .ref C :: bm) (fun A Q E s k q => wpAny_bind ((looks_clsIn X2 hcl) A _ E s k (wpAny_pure q))) rfl X2 su (I2.type.andThen (looks_subIn X2 T.vE)) (ks_ne X2 I2 hcl) (by decide +kernel) ?_
  have hu : (h2.push (kxs_mw "ValueError.__init__" x)).get? h2.objs.size = some (kxs_mw "ValueError.__init__" x) := Heap.get?_push_at rfl rfl
  have k3 : ∀ b o, h2.get? b = some o → (h2.push (kxs_mw "ValueError.__init__" x)).get? b = some o := fun b o e => Heap.get?_push_of_some _ e
  obtain ⟨u, hue⟩ : ∃ u, u = h2.objs.size := ⟨_, rfl⟩
  rw [← hue] at hu
  rw [← hue]
  have kk : ∀ b o, h1.get? b = some o → (h2.push (kxs_mw "ValueError.__init__" x)).get? b = some o := fun b o e => k3 b o (k2 b o e)
  have hx3 := k3 _ _ hx2
  have X3 : K.In (h2.push (kxs_mw "ValueError.__init__" x)) := X2.keeps k3
  have big : L ≤ (h2.push (kxs_mw "ValueError.__init__" x)).objs.size := by
    obtain ⟨oL, es, ep, eL, _⟩ := ns1
    exact Nat.le_of_lt (Heap.lt_size (kk _ _ eL))
  have ns3 : (h2.push (kxs_mw "ValueError.__init__" x)).Ns L (fun y => [(Str.ofString "self", Value.ref x), (fld, v)].reverse.lookup y) := ns1.keeps kk
  generalize (h2.push (kxs_mw "ValueError.__init__" x)) = h3 at *
  show wpAny _ _ (callWith p3 (.ref u) [] (backTo p3 (starEach [msg] _)) []) _ _ _
  rw [Tx.star]
  refine kxs_callWith (i := "ValueError.__init__") (x := x) rfl (evalArgs_plain (Calls.spliced_cons (M _ _ _ _ v _ _ kf lfld ns3 fld1 hv fun z tk tk2 => Calls.spliced_nil ⟨hu, ?_⟩)))
  show wpAny _ _ (call (.ref u) [.str z tk]) _ _ _
  have FB := F.excBase_ValueError
  refine wpAny_call (codeAny_of_tree ?_)
  show wpAny _ (Around.in1 _) (callAny (.ref u) ⟨[.str z tk], []⟩) _ _ _
  simp only [callAny]
  refine wpAny_bind (wpAny_load hu ?_)
  have w1 : (Value.type "method-wrapper" == Value.type "method" || Value.type "method-wrapper" == Value.type "builtin_function_or_method" || Value.type "method-wrapper" == Value.type "method-wrapper") = true := by decide
  simp only [kxs_mw, w1, if_true]
  refine KFB.if_so (by decide) ?_
  refine wpAny_bind (check_bound_init FB.toExcCallFacts (X3 _ _ hC) hx3 rfl ?_)
  refine wpAny_bind (wpAny_pure (wpAny_pure ?_))
  refine ⟨plainId_quiet FB.init.plain _, codeAny_builtin FB.initEntry ?_⟩
  refine exc_init_tree (cls := .ref C) (t0 := t0) (dv := none) (c2 := .none) (c3 := .none) (b4 := .bool false) hx3 (by show 1 ≤ sizeLine; decide) (fun h4 k4 e4 f4 => ?_)
  -- self.fld = fld
  have xL : L ≠ x := fun z => by
    have := Heap.lt_size hx
    rw [← hL, z] at this
    exact Nat.lt_irrefl _ this
  have ns4 : h4.Ns L (fun y => [(Str.ofString "self", Value.ref x), (fld, v)].reverse.lookup y) := by
    obtain ⟨oL, es', ep, eL, r⟩ := ns3
    exact ⟨oL, es', ep, k4 _ _ xL eL, r⟩
  have X4 : K.In h4 := kept_but X3 hxK k4
  refine wpAt_of_wpAny (wpAny_execs_cons (plainObj_wpAny_Assign_Attribute ?_ ?sw))
  case sw => rfl
  refine ESX.ldL (v := v) ns4 fld1 (ESX.ldL (v := .ref x) ns4 self1 ?_ kf lself (by decide +kernel)) kf lfld n4
  have hx4 : h4.get? x = some { cls := .ref C, data := .fields #[.ref h3.objs.size, .none, .none, .none, .bool false, .none] } := e4
  refine set_plain X4 (ox := { cls := .ref C, data := .fields #[.ref h3.objs.size, .none, .none, .none, .bool false, .none] }) (od := none) ⟨hx4, rfl, rfl, trivial⟩ T.sa ?_
  refine HandSPX.exc_osa X4 hx4 hcl (show HandSPX.refsVE (.ref C :: bm) = true from hbm) rfl T.no (fun h5 tk5 dx k5 dn dne hx5 hn5 => ?_)
  show wpAny _ _ (execs [] _) _ _ _
  refine wpAny_execs_nil (hq h5 _ dx h3.objs.size ⟨fun b o hb e => k5 b o hb (k4 b o hb (kk b o (k1' b o e))), hx5, ?_, dne, hn5⟩)
  have b3 : h3.objs.size ≤ h4.objs.size := Nat.le_of_lt (Heap.lt_size f4)
  have b1 : s.heap.objs.size ≤ h3.objs.size := by rw [← hL]; exact big
  exact Nat.le_trans b1 (Nat.le_trans b3 dn)
end
end Lot

/-! Such an exception made, raised, its field read in a suite (after the block of the guide's 42_own_error_by_import). -/
namespace Lot
open PySem PySem.Spec PyProof.Rows PySem.W PySem.Calls
/-- a made one -/
structure SupMade (h h' : Heap) (e C d : Addr) (fld : Str) (v : Value) : Prop where
  keep : ∀ b o, h.get? b = some o → h'.get? b = some o
  new : h.objs.size ≤ e
  obj : ∃ oe vs, h'.get? e = some oe ∧ oe.cls = .ref C ∧ oe.dict = some d ∧ oe.data = .fields vs ∧ vs[1]? = some .none
  dbig : h.objs.size ≤ d
  dne : d ≠ e
  ns : h'.Ns1 d (fun y => if y = fld then some v else none)
section
variable {prog : Program} {w : World} {A : Around} {R : Result → Shared → Prop} {K : Frag} {mg mb : Str → Option Value} {st : Stmt} {qual fld : Str} {msg : Expr} {C fI cc cda : Addr} {ok : Value → Prop}
theorem sup_made (T : SupTxt prog K st qual fld msg C fI cc cda) (Tx : SupText st fld msg) (M : MsgOk prog w msg fld ok) {s : Shared} {v : Value} (KS : K.In s.heap) (gS : s.heap.Ns mainGlobals mg) (bS : s.heap.Ns builtinsNs mb)
    (bb : ∀ y : Str, y ≠ "__name__" → mb y = bootBuiltins y) (lS : s.heap.NoLimit) (room : A.depth + 1 < recursionLimit) (hv : ok v)
    (hq : ∀ h' tk e d, SupMade s.heap h' e C d fld v → R (.ok (.ret (.ref e))) { s with heap := h', toks := tk }) :
    codeAny (model prog w) A (.call (.ref C) ⟨[v], []⟩) R s := by
  obtain ⟨nm, q, N, bs, bm, sn, sub, ab, col, dd, k0, k1, k2, k3, k5, hC, hbm⟩ := T.cls
  obtain ⟨hp, g, dr, tk, os⟩ := s
  have k : ∀ b o, hp.get? b = some o → ((hp.push (kdv_tup [v])).push (HandSPX.excO C hp.objs.size)).get? b = some o := fun b o e => Heap.get?_push_of_some _ (Heap.get?_push_of_some _ e)
  have hget : ((hp.push (kdv_tup [v])).push (HandSPX.excO C hp.objs.size)).get? (hp.objs.size + 1) = some (HandSPX.excO C hp.objs.size) := by heap_get
  have hnx : K.lookup (hp.objs.size + 1) = none := by
    cases e : K.lookup (hp.objs.size + 1) with
    | none => rfl
    | some o =>
      have z : hp.get? (hp.objs.size + 1) = some o := KS _ _ e
      exact absurd (Nat.lt_of_succ_lt (Heap.lt_size z)) (Nat.lt_irrefl _)
  have sz : ((hp.push (kdv_tup [v])).push (HandSPX.excO C hp.objs.size)).objs.size = hp.objs.size + 1 + 1 := by rw [Heap.size_push, Heap.size_push]
  refine HandSPX.call_own F.excBase_ValueError (fun X => HandSPX.refsVE_contains X bm hbm) (KS _ _ hC) (looks_findIn KS T.iC) (fun self => bind_fn KS self T.tI) (by show 1 ≤ sizeLine; decide) ?_
  refine sup_init (s := ⟨(hp.push (kdv_tup [v])).push (HandSPX.excO C hp.objs.size), g, dr, tk, os⟩) T Tx M (KS.keeps k) (gS.keeps k) (bS.keeps k) bb (lS.keeps k) hget hnx ?_ hv fun h' tk' dx t1 E => ?_
  · show A.depth + 1 < recursionLimit
    exact room
  · have old : ∀ b o, hp.get? b = some o → h'.get? b = some o := fun b o e => E.keep b o (Nat.ne_of_lt (Nat.lt_succ_of_lt (Heap.lt_size e))) (k b o e)
    have z : hp.objs.size + 1 + 1 ≤ dx := by
      rw [← sz]
      exact E.dbig
    exact ⟨rfl, hq h' tk' (hp.objs.size + 1) dx ⟨old, Nat.le_succ _, ⟨_, _, E.obj, rfl, rfl, rfl, rfl⟩, Nat.le_trans (Nat.le_trans (Nat.le_succ _) (Nat.le_succ _)) z, E.dne, E.ns⟩⟩
end
end Lot
namespace Lot
open PySem PySem.Spec PyProof.Rows L2
/-- texts of one int between two written ones -/
def okInt (v : Value) : Prop := ∃ (i : Int) (t : Tok), v = .int i t ∧ i.natAbs.log2 < 1920
theorem relO_one {fld : Str} {v : V} {v' : Value} (r : RelV v v') (f : Str) : RelO (List.lookup f [(fld, v)]) (if f = fld then some v' else none) := by
  by_cases hw : f = fld
  · subst hw
    rw [if_pos rfl]
    have q : List.lookup f [(f, v)] = some v := by simp [List.lookup]
    rw [q]
    exact r
  · rw [if_neg hw]
    have qw : (f == fld) = false := by simpa using hw
    have q2 : List.lookup f [(fld, v)] = none := by simp [List.lookup, qw]
    rw [q2]
    trivial
section
variable {X : Cx} {st : Stmt} {cn qual fld : Str} {msg : Expr} {C fI cc cda : Addr} {okV : V → Prop} {ok : Value → Prop}
/-- C(e) -/
def tMkSup (C : Addr) (fld : Str) (okV : V → Prop) (ta : TA) : L2.St → Hp → XK → Prop := fun σ H Q => ta σ H fun vs H1 => ∃ v, vs = [v] ∧ okV v ∧ ∀ d, H1 d = none → Q (.ref C) (some d) (upd H1 d (.xd [(fld, v)]))
theorem pmk_sup {a : Expr} {ta : TA} {p pos : Pos} {k : Nat} (T : SupTxt X.prog X.K st qual fld msg C fI cc cda) (Tx : SupText st fld msg) (M : MsgOk X.prog X.w msg fld ok) (hok : ∀ v u, RelV v u → okV v → ok u) (gC : X.mg cn = some (.ref C)) (hr : Room k X.A) (ha : PA X [a] ta)
    (hg : Gl X cn := by rfl) (hdb : (cn == ("__debug__" : Str)) = false := by decide)
    (he : starEach (a :: []) X.env = (false, eval a X.env) :: starEach [] X.env := by rfl) (hpl : (backTo pos (starEach [] X.env)).any (·.1) = false := by rfl) :
    PMk X (.Call (.Name cn p) [a] [] pos) (tMkSup C fld okV ta) := by
  intro pins s σ H Q I h
  refine wpAny_Call_Name_kw (ld_glob I hg gC ?_ hdb)
  refine PySem.W.callWith_K (h₀ := X.base) I.ok.mod.kin T.kC (thn (ha.run pos pins s σ H _ I h) fun us s1 hh => ?_) he hpl
  obtain ⟨vs, H1, I1, r1, v, ev, okv, q1⟩ := hh
  subst ev
  refine ⟨I1.kIn, ?_⟩
  cases r1 with
  | cons rv rn =>
    rename_i v' us'
    cases rn
    show wpAny _ _ (call (.ref C) [v']) _ _ _
    have hlim := I1.nolimit
    obtain ⟨mb, b1, b2⟩ := I1.ok.mod.blt
    have gS := I1.ok.mod.glob.keeps I1.bk
    have bS := b1.keeps I1.bk
    obtain ⟨hp, g, dr, tk, os⟩ := s1
    refine wpAny_call (sup_made T Tx M I1.kIn gS bS b2 hlim (by have := hr.dp; omega) (hok v v' rv okv) fun h' tk' e d Md => ?_)
    show MkP X pins σ Q (.ref e) ⟨h', g, dr, tk', os⟩
    obtain ⟨oe, fv, hoe, hc, hd, hdat, h1⟩ := Md.obj
    have hns := Md.ns
    obtain ⟨G', g1, g2⟩ := restrict h' fun b => decide (b ≠ e)
    have gk : ∀ b, b ≠ e → G'.get? b = h'.get? b := fun b hb => g1 b (decide_eq_true hb)
    have ge : G'.get? e = none := g2 e (by simp)
    have old : ∀ b o, hp.get? b = some o → G'.get? b = some o := fun b o q => (gk b (Nat.ne_of_lt (Nat.lt_of_lt_of_le (Heap.lt_size q) Md.new))).trans (Md.keep b o q)
    have ob : ObjOk X.prog X.w (upd H1 d (.xd [(fld, v)])) G' d (.xd [(fld, v)]) := ⟨_, hns.at (fun o q => (gk d Md.dne).trans q), fun f => relO_one rv f⟩
    have J : Inv X pins σ (upd H1 d (.xd [(fld, v)])) ⟨G', g, dr, tk', os⟩ := I1.laid (t' := tk') old Md.dbig ob
    refine ⟨e, oe, fv, ⟨G', g, dr, tk', os⟩, _, .ref C, some d, rfl, J, fun b o q => ?_, ge, hoe, ⟨hc, hd⟩, hdat, h1, ?_, rfl, I1.bare, raises_own T.exC T.tyC, q1 d (I1.hok.fresh Md.dbig)⟩
    · by_cases hb : b = e
      · have q' : G'.get? b = some o := q
        rw [hb, ge] at q'; cases q'
      · exact (gk b hb).symm.trans q
    · rw [upd_ne (Ne.symm Md.dne)]
      exact I1.hok.fresh Md.new
/-- raise C(e) -/
def tRaiseSup (C : Addr) (fld : Str) (okV : V → Prop) (W : WX) (ta : TA) : TS := fun _ σ H => tMkSup C fld okV ta σ H fun cls d H' => W cls d σ H'
theorem ps_raiseSup {a : Expr} {ta : TA} {W : WX} {p pos pos2 : Pos} {k : Nat} (hc : X.calm = true) (T : SupTxt X.prog X.K st qual fld msg C fI cc cda) (Tx : SupText st fld msg) (M : MsgOk X.prog X.w msg fld ok) (hok : ∀ v u, RelV v u → okV v → ok u) (gC : X.mg cn = some (.ref C)) (hr : Room k X.A)
    (tk : Takes X W) (ha : PA X [a] ta) (hg : Gl X cn := by rfl) (hdb : (cn == ("__debug__" : Str)) = false := by decide)
    (he : starEach (a :: []) X.env = (false, eval a X.env) :: starEach [] X.env := by rfl) (hpl : (backTo pos (starEach [] X.env)).any (·.1) = false := by rfl) :
    PS X (.Raise (some (.Call (.Name cn p) [a] [] pos)) none pos2) (tRaiseSup C fld okV W ta) := ps_raise hc tk (pmk_sup T Tx M hok gC hr ha hg hdb he hpl)
/-- e.fld, e the exception that the suite holds (at a; its class cls, its dict d) -/
def tByFld (C : Addr) (fld : Str) (a : Addr) (cls : Value) (d : Option Addr) (te : TE) : TE := fun σ H Q => te σ H fun x H1 => x = .ref a ∧ cls = .ref C ∧ ∃ (dd : Addr) (v : V), d = some dd ∧ H1 dd = some (.xd [(fld, v)]) ∧ Q v H1
theorem pe_byFld {a : Addr} {oe : Obj} {cls : Value} {d : Option Addr} {pn : List (Addr × Obj)} {e : Expr} {te : TE} {pos : Pos} (T : SupTxt X.prog X.K st qual fld msg C fI cc cda) (hz : Zc cls d oe) (hf : ∃ vs, oe.data = .fields vs) (he : PE (X.suite a ((a, oe) :: pn)) e te)
    (hb : attributeBase e fld X.env (eval e X.env) = eval e X.env := by rfl) (hnd : (fld == ("__dict__" : Str)) = false := by decide) (hnc : (fld == ("__class__" : Str)) = false := by decide) :
    PE (X.suite a ((a, oe) :: pn)) (.Attribute e fld pos) (tByFld C fld a cls d te) := by
  refine ⟨fun pins s σ H Q I h => ?_⟩
  refine attr_of hb (thn (he.run pins s σ H _ I h) fun u s1 hh => ?_)
  obtain ⟨x, H1, I1, rx, ex, ec, dd, v, ed, ea, q⟩ := hh
  subst ex
  obtain rfl : u = Value.ref a := rx
  subst ec
  subst ed
  obtain ⟨ha, _⟩ := I1.pin (a, oe) (List.mem_append_left _ List.mem_cons_self)
  obtain ⟨vs, hd⟩ := hf
  have hx : ObjOk X.prog X.w H1 s1.heap dd (.xd [(fld, v)]) := I1.hok dd _ ea
  obtain ⟨mA, hns, hr⟩ := hx
  obtain ⟨od, ho, hl⟩ := lookIn_ns hns
  have l : List.lookup fld [(fld, v)] = some v := by simp [List.lookup]
  obtain ⟨u, hu, ru⟩ := RelO.some_of (v := v) (o := mA fld) (by rw [← l]; exact hr fld)
  have J : PySem.W.InstAt s1.heap a oe C (some od) := ⟨ha, hz.1, by unfold PySem.W.notCls; rw [hd] <;> rfl, by rw [hz.2]; exact ho⟩
  exact HandSPX.exc_get I1.kIn J T.ga T.gg T.exC (PySem.W.findObj_own T.hdC T.no rfl (by rw [hl, hu])) (handed_of ru) ⟨v, H1, I1.tok _, ru, q⟩
end
end Lot
namespace Lot
open PySem PySem.Spec PyProof.Rows
/-- an f-string: a written text, the field, a written text -/
theorem msg_mid {prog : Program} {w : World} {fld a b : Str} {k1 k2 : _} {p1 p2 p3 p4 p5 : Pos} (hnd : (fld == ("__debug__" : Str)) = false) (ha : a.length ≤ 1000) (hb : b.length ≤ 1000) :
    MsgOk prog w (.JoinedStr [.Constant (.str a) k1 p1, .FormattedValue (.Name fld p2) (-1) none p3, .Constant (.str b) k2 p4] p5) fld okInt := by
  intro A E Q env v s m kf kl hn hm hv q
  obtain ⟨i, t, rfl, hz⟩ := hv
  have len : ∀ x y : Str, (x ++ y).length = x.length + y.length := str_app_len
  have e0 : Str.empty.length = 0 := rfl
  have hi := PyProof.Rows.int_text_len_1921 hz
  have hs : 10000 ≤ sizeLine := by decide
  refine wpAny_JoinedStr ?_
  show Joins _ _ _ [eval (.Constant (.str a) k1 p1) env, eval (.FormattedValue (.Name fld p2) (-1) none p3) env, eval (.Constant (.str b) k2 p4) env] _ _ _
  refine Calls.Constant_str ⟨a, _, rfl, by rw [len]; omega, ?_⟩
  refine wpAny_FormattedValue_plain (ESX.ldL hn hm ?_ kf kl hnd)
  refine wpAny_formatField_int hz ⟨_, _, rfl, by rw [len, len]; have : (toString i : Str).length ≤ 1921 := hi; omega, ?_⟩
  refine Calls.Constant_str ⟨b, _, rfl, by rw [len, len, len]; have : (toString i : Str).length ≤ 1921 := hi; omega, ?_⟩
  exact ⟨by rw [len, len, len]; have : (toString i : Str).length ≤ 1921 := hi; omega, q _ _ _⟩
end Lot
namespace Lot
open PySem PySem.Spec PyProof.Rows L2
def okI (v : V) : Prop := ∃ i : Int, v = .int i ∧ i.natAbs.log2 < 1920
theorem okI_rel (v : V) (u : Value) (r : RelV v u) (h : okI v) : okInt u := by
  obtain ⟨i, rfl, hz⟩ := h
  obtain ⟨t, rfl⟩ := r
  exact ⟨i, t, rfl, hz⟩
theorem okI_nat {n : Nat} (h : n < 2 ^ 100) : okI (.int (n : Int)) := ⟨n, rfl, by
  have : ((n : Int)).natAbs = n := Int.natAbs_natCast n
  rw [this]
  exact Nat.lt_trans (PySem.Flt.log2_lt_of (by decide) h) (by decide)⟩
/-- a def of the text that may raise, ready to be called -/
structure DefX (P : Program) (w : World) (K : PySem.W.Frag) (mg : Str → Option Value) (base : Heap) (k : Nat) (x : Str) (ps : List Str) (sp : Sp) (f : Addr) (fd : FuncData) : Prop where
  ok : FnOk P w K mg base (L2.CX P w) k f fd ps sp
  g : mg x = some (.ref f)
  kp : PySem.W.keepIn K (.ref f) = true
  b : Binds K fd ps []
end Lot
namespace Lot
open PySem PySem.Spec PyProof.Rows
/-- an error of the class at S is what «except S» names -/
theorem exm_self {K : PySem.W.Frag} {S : Addr} (h1 : PySem.W.subIn K (.ref S) (.type "BaseException") = some true) (h2 : PySem.W.isClsIn K S = true) (h3 : PySem.W.typeIn K (.ref S) = some (.type "type")) (h4 : PySem.W.subIn K (.ref S) (.ref S) = some true) :
    PySem.W.exmOne K (.ref S) (.ref S) = some true := by
  have e1 : (PySem.W.subIn K (.ref S) (.type "BaseException") == some true) = true := by rw [h1] <;> rfl
  have e2 : ((PySem.W.clsIn K S).isSome && PySem.W.typeIn K (.ref S) == some (.type "type")) = true := by
    have h2' : (PySem.W.clsIn K S).isSome = true := h2
    rw [h2', h3] <;> rfl
  show (if (PySem.W.subIn K (.ref S) (.type "BaseException") == some true) = true then (if ((PySem.W.clsIn K S).isSome && PySem.W.typeIn K (.ref S) == some (.type "type")) = true then PySem.W.subIn K (.ref S) (.ref S) else none) else none) = some true
  rw [if_pos e1, if_pos e2]
  exact h4
end Lot

namespace Lot
open PySem PySem.Spec PyProof.Rows L2
def blank : Str := Str.ofString " "
theorem spl_le (S : List Nat) : ∀ (l : List Nat) (k : Nat) (acc : List Nat), (∀ p ∈ TL.spl S k acc l, p.length ≤ acc.length + l.length) ∧ (TL.spl S k acc l).length ≤ l.length + 1
  | [], k, acc => by
    rw [TL.spl_nil]
    refine ⟨fun p hp => ?_, Nat.le_refl _⟩
    rw [List.mem_singleton.mp hp]
    exact Nat.le_add_right _ _
  | c :: r, 0, acc => by
    cases h : TL.pre S (c :: r) with
    | true =>
      rw [TL.spl_hit h]
      have ih := spl_le S r (S.length - 1) []
      refine ⟨fun p hp => ?_, ?_⟩
      · rcases List.mem_cons.mp hp with rfl | hp
        · exact Nat.le_add_right _ _
        · have := ih.1 p hp
          simp only [List.length_nil, List.length_cons] at *
          omega
      · rw [List.length_cons, List.length_cons]
        exact Nat.succ_le_succ ih.2
    | false =>
      rw [TL.spl_miss h]
      have ih := spl_le S r 0 (acc ++ [c])
      refine ⟨fun p hp => ?_, ?_⟩
      · have := ih.1 p hp
        rw [List.length_append, List.length_singleton] at this
        rw [List.length_cons]
        omega
      · rw [List.length_cons]
        exact Nat.le_succ_of_le ih.2
  | c :: r, k + 1, acc => by
    show (∀ p ∈ TL.spl S k acc r, _) ∧ (TL.spl S k acc r).length ≤ _
    have ih := spl_le S r k acc
    refine ⟨fun p hp => ?_, ?_⟩
    · have := ih.1 p hp
      rw [List.length_cons]
      omega
    · rw [List.length_cons]
      exact Nat.le_succ_of_le ih.2
theorem spl_mem (S : List Nat) : ∀ (l : List Nat) (k : Nat) (acc : List Nat), ∀ p ∈ TL.spl S k acc l, ∀ c ∈ p, c ∈ acc ∨ c ∈ l
  | [], k, acc => by
    rw [TL.spl_nil]
    intro p hp c hc
    rw [List.mem_singleton.mp hp] at hc
    exact .inl hc
  | x :: r, 0, acc => by
    cases h : TL.pre S (x :: r) with
    | true =>
      rw [TL.spl_hit h]
      intro p hp c hc
      rcases List.mem_cons.mp hp with rfl | hp
      · exact .inl hc
      · rcases spl_mem S r (S.length - 1) [] p hp c hc with h | h
        · cases h
        · exact .inr (List.mem_cons_of_mem _ h)
    | false =>
      rw [TL.spl_miss h]
      intro p hp c hc
      rcases spl_mem S r 0 (acc ++ [x]) p hp c hc with h | h
      · rcases List.mem_append.mp h with h | h
        · exact .inl h
        · rw [List.mem_singleton.mp h]; exact .inr List.mem_cons_self
      · exact .inr (List.mem_cons_of_mem _ h)
  | x :: r, k + 1, acc => by
    intro p hp c hc
    have hp' : p ∈ TL.spl S k acc r := hp
    exact (spl_mem S r k acc p hp' c hc).imp_right (List.mem_cons_of_mem _)
/-- .. and they have no other signs -/
theorem split_mem (x : Str) : ∀ z ∈ Txt.split x blank, ∀ c ∈ z.cps.toList, c ∈ x.cps.toList := by
  have e := TL.split_spl x blank (by decide +kernel) (TL.kind_ok (by decide +kernel))
  intro z hz c hc
  have h := spl_mem (TL.tl blank) (TL.tl x) 0 [] (TL.tl z) (by rw [← e]; exact List.mem_map_of_mem hz) c hc
  rcases h with h | h
  · cases h
  · exact h
/-- the words of a text: none is longer than it -/
theorem split_le (x : Str) : (∀ z ∈ Txt.split x blank, z.length ≤ x.length) ∧ (Txt.split x blank).length ≤ x.length + 1 := by
  have e := TL.split_spl x blank (by decide +kernel) (TL.kind_ok (by decide +kernel))
  have h := spl_le (TL.tl blank) (TL.tl x) 0 []
  rw [← e] at h
  rw [List.length_map] at h
  rw [TL.len_tl x]
  refine ⟨fun z hz => ?_, h.2⟩
  have := h.1 (TL.tl z) (List.mem_map_of_mem hz)
  rw [TL.len_tl z]
  simpa using this
/-- the first word that is not due, or how many there are where words lack -/
def firstBad (due wide : Nat) : Nat → List Str → Option Nat
  | i, [] => if i < due then some i else none
  | i, z :: r => if (decide (due ≤ i) || !isDue z i wide) = true then some i else firstBad due wide (i + 1) r
def dueMany (bd : Bd) : Nat := bd.high * (bd.wide + 1) - 1
def badAt (bd : Bd) (text : Str) : Option Nat := firstBad (dueMany bd) bd.wide 0 (Txt.split text blank)
def thingsIn (ws : List Str) : List (Str × Nat) := (ws.filter fun z => !decide (z = slash)).map thingOf
/-- words that were due up to place i: the first that isn't stands behind them -/
theorem firstBad_app {due wide : Nat} : ∀ {ws : List Str} {i k : Nat}, (∀ j z, j < i → ws[j]? = some z → (decide (due ≤ k + j) || !isDue z (k + j) wide) = false) → i ≤ ws.length → firstBad due wide k ws = firstBad due wide (k + i) (ws.drop i)
  | ws, 0, k, _, _ => by rw [List.drop_zero, Nat.add_zero]
  | [], i + 1, k, _, h => by simp at h
  | z :: r, i + 1, k, h, hl => by
    have h0 := h 0 z (Nat.succ_pos i) rfl
    rw [Nat.add_zero] at h0
    show (if (decide (due ≤ k) || !isDue z k wide) = true then some k else firstBad due wide (k + 1) r) = _
    rw [h0, if_neg Bool.false_ne_true]
    rw [firstBad_app (ws := r) (i := i) (k := k + 1) (fun j y hj hy => by
      have := h (j + 1) y (Nat.succ_lt_succ hj) (by rw [List.getElem?_cons_succ]; exact hy)
      rw [show k + 1 + j = k + (j + 1) by omega]
      exact this) (by rw [List.length_cons] at hl; omega)]
    rw [List.drop_succ_cons, show k + 1 + i = k + (i + 1) by omega]
theorem firstBad_here {due wide : Nat} {ws : List Str} {i : Nat} {z : Str} (h : ∀ j z, j < i → ws[j]? = some z → (decide (due ≤ j) || !isDue z j wide) = false) (hz : ws[i]? = some z) (hb : (decide (due ≤ i) || !isDue z i wide) = true) : firstBad due wide 0 ws = some i := by
  have hi := (List.getElem?_eq_some_iff.mp hz).1
  rw [firstBad_app (i := i) (k := 0) (fun j y hj hy => by rw [Nat.zero_add]; exact h j y hj hy) (Nat.le_of_lt hi), Nat.zero_add]
  have ed : ws.drop i = z :: ws.drop (i + 1) := by
    rw [List.drop_eq_getElem_cons hi]
    have := (List.getElem?_eq_some_iff.mp hz).2
    rw [this]
  rw [ed]
  show (if (decide (due ≤ i) || !isDue z i wide) = true then some i else _) = _
  rw [if_pos hb]
theorem firstBad_end {due wide : Nat} {ws : List Str} (h : ∀ j z, ws[j]? = some z → (decide (due ≤ j) || !isDue z j wide) = false) : firstBad due wide 0 ws = if ws.length < due then some ws.length else none := by
  rw [firstBad_app (i := ws.length) (k := 0) (fun j y hj hy => by rw [Nat.zero_add]; exact h j y hy) (Nat.le_refl _), List.drop_length, Nat.zero_add]
  rfl
/-- nothing is wrong: every word is due, they are as many as are due -/
theorem firstBad_none {due wide : Nat} : ∀ {ws : List Str} {k : Nat}, firstBad due wide k ws = none → k ≤ due → (∀ j z, ws[j]? = some z → isDue z (k + j) wide = true) ∧ k + ws.length = due
  | [], k, h, hk => by
    unfold firstBad at h
    by_cases c : k < due
    · rw [if_pos c] at h; cases h
    · exact ⟨fun j z e => by simp at e, by show k + 0 = due; omega⟩
  | z :: r, k, h, hk => by
    unfold firstBad at h
    by_cases c : (decide (due ≤ k) || !isDue z k wide) = true
    · rw [if_pos c] at h; cases h
    · rw [if_neg c] at h
      have c' : (decide (due ≤ k) || !isDue z k wide) = false := by simpa using c
      rw [Bool.or_eq_false_iff] at c'
      have hk' : ¬ due ≤ k := of_decide_eq_false c'.1
      have ih := firstBad_none h (by omega)
      refine ⟨fun j y e => ?_, by rw [List.length_cons]; omega⟩
      cases j with
      | zero =>
        have : z = y := Option.some.inj e
        subst this
        simpa using c'.2
      | succ j =>
        rw [List.getElem?_cons_succ] at e
        have := ih.1 j y e
        rw [show k + (j + 1) = k + 1 + j by omega]
        exact this
end Lot

namespace Lot
open PySem PySem.Spec PyProof.Rows L2
/-! ### list(text) -/
def signs (z : Str) : List V := z.cps.toList.map fun c => .str ⟨#[c]⟩
theorem call_list_text {X : Cx} (hc : X.calm = true) : CallR X (.type "list") (fun xs H Q => ∃ z : Str, xs = [.str z] ∧ z.length ≤ sizeLine ∧ ∀ p, H p = none → Q (.ref p) (upd H p (.lst (signs z)))) := by
  intro pins s σ H xs us Q I r h
  obtain ⟨z, rfl, hz, q⟩ := h
  obtain ⟨u, rfl, rx⟩ := vals1 r
  obtain ⟨t, rfl⟩ := rx
  refine PySem.call_list_str (I.ok.hd hc) z t (fun h' tk acc' c' hkeep hS hacc => ?_) hz
  have hl : (signs z).length = z.cps.size := by unfold signs; rw [List.length_map, Array.length_toList]
  refine ⟨.ref s.heap.objs.size, upd H s.heap.objs.size (.lst (signs z)), I.laid hkeep (Nat.le_refl _) (show ObjOk X.prog X.w _ _ _ (.lst (signs z)) from ⟨?_, acc'.toList, c', ?_, ?_⟩), rfl, q _ (I.hok.fresh (Nat.le_refl _))⟩
  · rw [hl]; exact hz
  · have el : acc'.toList.length = acc'.size := by simp
    refine vals_of_at (by rw [el, hacc.1, hl]) fun j x w h1 h2 => ?_
    obtain ⟨c, tk2, hc1, rfl⟩ := hacc.2 j w (by rw [← Array.getElem?_toList]; exact h2)
    unfold signs at h1
    rw [List.getElem?_map, Array.getElem?_toList, hc1] at h1
    cases h1
    exact ⟨_, rfl⟩
  · rw [Array.toArray_toList]; exact hS
end Lot
namespace Lot
open PySem PySem.Spec PyProof.Rows L2
/-! ### data: lists of signs -/
def dSigns (l : List Nat) : PyData := .list (l.map fun c => .str ⟨#[c]⟩)
theorem signs_data {K : PySem.W.Frag} {H : Hp} : ∀ l : List Nat, DpAll K H (l.map fun c => V.str ⟨#[c]⟩) (l.map fun c => PyData.str ⟨#[c]⟩)
  | [] => .nil
  | c :: l => .cons (.str _) (signs_data l)
theorem signs_can : ∀ l : List Nat, (∀ c ∈ l, c < 128) → PyData.canLayAll0 (l.map fun c => PyData.str ⟨#[c]⟩) = true
  | [], _ => rfl
  | c :: l, h => by
    show (PyData.canLay0 (.str ⟨#[c]⟩) && PyData.canLayAll0 (l.map fun c => PyData.str ⟨#[c]⟩)) = true
    rw [signs_can l fun x hx => h x (List.mem_cons_of_mem _ hx), Bool.and_true]
    have hc := h c List.mem_cons_self
    have key : ∀ n : Nat, n < 128 → PyData.canLay0 (.str ⟨#[n]⟩) = true := by decide +kernel
    exact key c hc
theorem signs_depth : ∀ l : List Nat, PyData.depthAll (l.map fun c => PyData.str ⟨#[c]⟩) = 0
  | [] => rfl
  | c :: l => by
    show max 0 (PyData.depthAll (l.map fun c => PyData.str ⟨#[c]⟩)) = 0
    rw [signs_depth l]
    rfl
theorem signs_shaped {l : List Nat} (h : ∀ c ∈ l, c < 128) : SeqAt.shaped (dSigns l) = true := by
  unfold SeqAt.shaped
  rw [Bool.and_eq_true]
  refine ⟨signs_can l h, decide_eq_true ?_⟩
  show PyData.depthAll _ + 1 ≤ 64
  rw [signs_depth]
  decide
theorem signs_nil (l : List Nat) : PyData.eqv (dSigns l) (.list []) = l.isEmpty := by
  cases l with
  | nil => rfl
  | cons c r => rfl
/-! ### the law's own reading, cell by cell -/
theorem cut_head (z : Str) : (cutS z none (some 1) = minus) ↔ Txt.startswith z minus = true := by
  rw [starts_iff]
  unfold cutS
  have e1 : HT.sIx z.length z.length (some 1) = min 1 z.length := HT.sIx_nat z.length z.length 1
  rw [e1, HT.sIx_none]
  have hl : z.length = z.cps.toList.length := by simp [Str.length]
  rw [hl, List.drop_zero, minus_is]
  cases z.cps.toList with
  | nil => exact ⟨(fun h => by cases h), (fun h => by cases h)⟩
  | cons x r =>
    rw [show min 1 (x :: r).length = 1 by rw [List.length_cons]; omega]
    show ((⟨#[x]⟩ : Str) = ⟨#[45]⟩) ↔ some x = some 45
    constructor
    · intro h
      have := Str.mk.inj h
      simpa using this
    · intro h
      rw [Option.some.inj h]
theorem cut_zero (z : Str) : cutS z (some 0) none = z := by
  unfold cutS
  have e1 : HT.sIx z.length 0 (some 0) = min 0 z.length := HT.sIx_nat z.length 0 0
  rw [e1, HT.sIx_none, Nat.zero_min, List.drop_zero, Nat.sub_zero]
  have hl : z.length = z.cps.toList.length := by simp [Str.length]
  rw [hl, List.take_length]
/-- the place of cell c's word -/
def pos (w c : Nat) : Nat := (c / w) * (w + 1) + c % w
def edgeN (w c : Nat) : Bool := decide (0 < c) && decide (c % w = 0)
/-- where the reading stands ahead of cell c -/
def ahead (w c : Nat) : Nat := pos w c - (if edgeN w c then 1 else 0)
theorem pos_mod {w c : Nat} (hw : 0 < w) : pos w c % (w + 1) = c % w := by
  unfold pos
  rw [Nat.mul_comm, Nat.mul_add_mod]
  exact Nat.mod_eq_of_lt (by have := Nat.mod_lt c hw; omega)
theorem edge_pos {w c : Nat} (hw : 0 < w) (h : edgeN w c = true) : 1 ≤ pos w c ∧ (pos w c - 1) % (w + 1) = w ∧ c % w = 0 := by
  unfold edgeN at h
  rw [Bool.and_eq_true] at h
  have h0 := of_decide_eq_true h.1
  have h1 := of_decide_eq_true h.2
  have hq : 1 ≤ c / w := by
    have := Nat.div_add_mod c w
    rw [h1, Nat.add_zero] at this
    cases hz : c / w with
    | zero => rw [hz, Nat.mul_zero] at this; omega
    | succ n => omega
  obtain ⟨n, hn⟩ : ∃ n, c / w = n + 1 := ⟨c / w - 1, by omega⟩
  have e : pos w c = n * (w + 1) + w + 1 := by
    unfold pos
    rw [h1, hn, Nat.succ_mul]
    omega
  refine ⟨by omega, ?_, h1⟩
  rw [e, show n * (w + 1) + w + 1 - 1 = (w + 1) * n + w by rw [Nat.mul_comm]; omega, Nat.mul_add_mod]
  exact Nat.mod_eq_of_lt (Nat.lt_succ_self w)
theorem ahead_zero (w : Nat) : ahead w 0 = 0 := by
  unfold ahead pos
  simp
theorem ahead_succ {w c : Nat} (hw : 0 < w) : ahead w (c + 1) = pos w c + 1 := by
  have hm := Nat.mod_lt c hw
  have hd := Nat.div_add_mod c w
  unfold ahead
  by_cases h : c % w + 1 = w
  · have e1 : c + 1 = w * (c / w + 1) := by
      rw [Nat.mul_succ]
      omega
    have em : (c + 1) % w = 0 := by rw [e1]; exact Nat.mul_mod_right _ _
    have ed : (c + 1) / w = c / w + 1 := by rw [e1]; exact Nat.mul_div_cancel_left _ hw
    have ee : edgeN w (c + 1) = true := by
      unfold edgeN
      rw [decide_eq_true (Nat.succ_pos c), decide_eq_true em]
      rfl
    rw [ee, if_pos rfl]
    unfold pos
    rw [em, ed, Nat.succ_mul]
    omega
  · have hm2 : c % w + 1 < w := by omega
    have e1 : c + 1 = w * (c / w) + (c % w + 1) := by omega
    have em : (c + 1) % w = c % w + 1 := by
      rw [e1, Nat.mul_add_mod]
      exact Nat.mod_eq_of_lt hm2
    have ed : (c + 1) / w = c / w := by
      rw [e1, Nat.mul_add_div hw, Nat.div_eq_of_lt hm2, Nat.add_zero]
    have ee : edgeN w (c + 1) = false := by
      unfold edgeN
      rw [decide_eq_false (show ¬ (c + 1) % w = 0 by rw [em]; omega), Bool.and_false]
    rw [ee, if_neg (by decide)]
    unfold pos
    rw [em, ed]
    omega
theorem ahead_end {w h : Nat} (hw : 0 < w) (hh : 0 < h) : ahead w (h * w) = h * (w + 1) - 1 := by
  have em : h * w % w = 0 := Nat.mul_mod_left _ _
  have ee : edgeN w (h * w) = true := by
    unfold edgeN
    rw [decide_eq_true (Nat.mul_pos hh hw), decide_eq_true em]
    rfl
  unfold ahead
  rw [ee, if_pos rfl]
  unfold pos
  rw [em, Nat.mul_div_cancel _ hw, Nat.add_zero]
theorem pos_lt {w h c : Nat} (hw : 0 < w) (hc : c < h * w) : pos w c < h * (w + 1) - 1 := by
  have hm := Nat.mod_lt c hw
  have hq : c / w < h := (Nat.div_lt_iff_lt_mul hw).mpr hc
  have h2 : (c / w + 1) * (w + 1) ≤ h * (w + 1) := Nat.mul_le_mul_right _ hq
  rw [Nat.succ_mul] at h2
  unfold pos
  omega
/-- a board's edges are those of its width -/
theorem Bd.edge_is {bd : Bd} (ok : bd.Ok 36) {c : Nat} (hc : c < bd.cells) : bd.edge c = edgeN bd.wide c := by
  have plain : ∀ n, bd.wide = n → bd.cells = n → bd.edge c = false → bd.edge c = edgeN bd.wide c := fun n e1 e2 e3 => by
    rw [e3, e1]
    unfold edgeN
    by_cases h : 0 < c
    · rw [Nat.mod_eq_of_lt (by omega), decide_eq_false (show ¬ c = 0 by omega), Bool.and_false]
    · rw [decide_eq_false h, Bool.false_and]
  cases bd with
  | row n => exact plain n rfl (Nat.one_mul n) rfl
  | ring n => exact plain n rfl (Nat.one_mul n) rfl
  | floor h w => rfl
/-- all words ahead of place n are due -/
def Good (bd : Bd) (ws : List Str) (n : Nat) : Prop := n ≤ ws.length ∧ n ≤ dueMany bd ∧ ∀ j z, j < n → ws[j]? = some z → (decide (dueMany bd ≤ j) || !isDue z j bd.wide) = false
theorem Good.next {bd : Bd} {ws : List Str} {n : Nat} {z : Str} (g : Good bd ws n) (hn : n < dueMany bd) (hz : ws[n]? = some z) (hd : isDue z n bd.wide = true) : Good bd ws (n + 1) := by
  have hl := (List.getElem?_eq_some_iff.mp hz).1
  refine ⟨hl, hn, fun j y hj hy => ?_⟩
  by_cases c : j = n
  · subst c
    rw [hz] at hy
    rw [← Option.some.inj hy, hd, decide_eq_false (by omega)]
    rfl
  · exact g.2.2 j y (by omega) hy
theorem Good.bad {bd : Bd} {ws : List Str} {n : Nat} {z : Str} (g : Good bd ws n) (hz : ws[n]? = some z) (hb : dueMany bd ≤ n ∨ isDue z n bd.wide = false) : firstBad (dueMany bd) bd.wide 0 ws = some n := by
  refine firstBad_here g.2.2 hz ?_
  rcases hb with hb | hb
  · rw [decide_eq_true hb, Bool.true_or]
  · rw [hb]
    simp
theorem Good.lacks {bd : Bd} {ws : List Str} (g : Good bd ws ws.length) (h : ws.length < dueMany bd) : firstBad (dueMany bd) bd.wide 0 ws = some ws.length := by
  rw [firstBad_end fun j z hz => g.2.2 j z (List.getElem?_eq_some_iff.mp hz).1 hz, if_pos h]
theorem Good.whole {bd : Bd} {ws : List Str} (g : Good bd ws ws.length) (h : ws.length = dueMany bd) : firstBad (dueMany bd) bd.wide 0 ws = none := by
  rw [firstBad_end fun j z hz => g.2.2 j z (List.getElem?_eq_some_iff.mp hz).1 hz, if_neg (by omega)]
theorem things_slash {ws : List Str} {n : Nat} (hz : ws[n]? = some slash) : thingsIn (ws.take (n + 1)) = thingsIn (ws.take n) := by
  unfold thingsIn
  rw [List.take_add_one, hz, List.filter_append, show (some slash).toList = [slash] from rfl, List.filter_cons_of_neg (by simp), List.filter_nil, List.append_nil]
theorem things_more {ws : List Str} {n : Nat} {z : Str} (hz : ws[n]? = some z) (h : z ≠ slash) : thingsIn (ws.take (n + 1)) = thingsIn (ws.take n) ++ [thingOf z] := by
  unfold thingsIn
  rw [List.take_add_one, hz, List.filter_append, show (some z).toList = [z] from rfl, List.filter_cons_of_pos (by rw [decide_eq_false h]; rfl), List.filter_nil, List.map_append]
  rfl
theorem name_slash {z : Str} (h : isName (thingOf z).1 = true) : z ≠ slash := fun e => by
  rw [e] at h
  have : isName (thingOf slash).1 = false := by decide +kernel
  rw [this] at h
  cases h
end Lot
namespace Lot
open PySem PySem.Spec PyProof.Rows L2
def AscS (z : Str) : Prop := ∀ c ∈ z.cps.toList, c < 128
theorem AscS.app {a b : Str} (h : AscS a) (g : AscS b) : AscS (a ++ b) := fun c hc => by
  have : c ∈ (a.cps ++ b.cps).toList := hc
  rw [Array.toList_append, List.mem_append] at this
  exact this.elim (h c) (g c)
theorem AscS.cut {z : Str} (h : AscS z) (lo hi : Option Int) : AscS (cutS z lo hi) := fun c hc => by
  unfold cutS at hc
  exact h c (List.mem_of_mem_drop (List.mem_of_mem_take hc))
theorem AscS.one {c : Nat} (h : c < 128) : AscS ⟨#[c]⟩ := fun d hd => by
  have : d = c := by simpa using hd
  omega
theorem AscS.join {s : Str} (hs : AscS s) : ∀ {ys : List Str}, (∀ z ∈ ys, AscS z) → AscS (Str.join s ys)
  | [], _ => fun c hc => by cases hc
  | [x], h => h x List.mem_cons_self
  | x :: y :: r, h => by
    have ih := AscS.join hs (ys := y :: r) fun z hz => h z (List.mem_cons_of_mem _ hz)
    exact ((h x List.mem_cons_self).app hs).app ih
theorem cut_len (z : Str) (lo hi : Option Int) : (cutS z lo hi).length ≤ z.length := cutS_length z lo hi
/-- slices of lists of texts -/
def cutL (l : List Str) (lo hi : Option Int) : List Str := (l.drop (HT.sIx l.length 0 lo)).take (HT.sIx l.length l.length hi - HT.sIx l.length 0 lo)
theorem cutV_map (l : List Str) (lo hi : Option Int) : cutV (l.map V.str) lo hi = (cutL l lo hi).map V.str := by
  unfold cutV cutL
  rw [List.length_map, List.map_take, List.map_drop]
theorem cutL_mem {l : List Str} {lo hi : Option Int} {z : Str} (h : z ∈ cutL l lo hi) : z ∈ l := List.mem_of_mem_drop (List.mem_of_mem_take h)
theorem cutL_len (l : List Str) (lo hi : Option Int) : (cutL l lo hi).length ≤ l.length := by
  unfold cutL
  rw [List.length_take, List.length_drop]
  omega
/-- what is read of words that are all due -/
theorem things_ok {bd : Bd} {text : Str} (h : badAt bd text = none) : ∀ th ∈ thingsIn (Txt.split text blank), ThOk th := by
  intro th hth
  unfold thingsIn at hth
  obtain ⟨z, hz, rfl⟩ := List.mem_map.mp hth
  obtain ⟨hz1, hz2⟩ := List.mem_filter.mp hz
  obtain ⟨j, hj⟩ := List.getElem?_of_mem hz1
  have hd := (firstBad_none h (Nat.zero_le _)).1 j z hj
  have hs : z ≠ slash := fun e => by rw [e] at hz2; simp at hz2
  refine ⟨isName_iff.mp ?_, ?_⟩
  · unfold isDue at hd
    by_cases c : (0 + j) % (bd.wide + 1) = bd.wide
    · rw [if_pos c] at hd
      exact absurd (of_decide_eq_true hd) hs
    · rw [if_neg c] at hd
      exact hd
  · unfold thingOf
    split
    · show 1 < 2
      decide
    · show 0 < 2
      decide
theorem things_few {bd : Bd} (ok : bd.Ok 36) {text : Str} (h : badAt bd text = none) : (thingsIn (Txt.split text blank)).length ≤ 2000 := by
  have hd := (firstBad_none h (Nat.zero_le _)).2
  have hw : bd.high ≤ 36 ∧ bd.wide ≤ 36 := by
    cases bd with
    | row n => exact ⟨by show 1 ≤ 36; decide, ok.2⟩
    | ring n => exact ⟨by show 1 ≤ 36; decide, ok.2⟩
    | floor hh w =>
      obtain ⟨o1, o2, o3⟩ := ok
      exact ⟨Nat.le_trans (Nat.le_mul_of_pos_right hh o2) o3, Nat.le_trans (Nat.le_mul_of_pos_left w o1) o3⟩
  have hm : bd.high * (bd.wide + 1) ≤ 36 * 37 := Nat.mul_le_mul hw.1 (by omega)
  unfold thingsIn
  rw [List.length_map]
  refine Nat.le_trans (List.length_filter_le _ _) ?_
  unfold dueMany at hd
  omega
end Lot
namespace Lot
open PySem PySem.Spec PyProof.Rows L2
theorem firstBad_le {due wide : Nat} : ∀ {ws : List Str} {k i : Nat}, firstBad due wide k ws = some i → i ≤ k + ws.length
  | [], k, i, h => by
    unfold firstBad at h
    split at h
    · have := Option.some.inj h
      omega
    · cases h
  | z :: r, k, i, h => by
    unfold firstBad at h
    split at h
    · have := Option.some.inj h
      omega
    · have := firstBad_le h
      rw [List.length_cons]
      omega
theorem bad_le {bd : Bd} {text : Str} {i : Nat} (h : badAt bd text = some i) (hl : text.length ≤ 10000) : i ≤ 10001 := by
  have h1 := firstBad_le h
  have h2 := (Lot.split_le text).2
  omega
/-- what repr asks of a small int -/
theorem dInt_ok {i : Nat} (h : i ≤ 10001) : (PyData.int (i : Int)).showable = true ∧ (PyData.int (i : Int)).hasDict = false ∧ (PyData.int (i : Int)).depth ≤ 50 ∧ (PyData.int (i : Int)).shown.length ≤ sizeLine := by
  have hz : ((i : Int)).natAbs.log2 < 1920 := by
    rw [Int.natAbs_natCast]
    exact Nat.lt_trans (PySem.Flt.log2_lt_of (k := 20) (by decide) (Nat.lt_of_le_of_lt h (by decide))) (by decide)
  exact ⟨decide_eq_true hz, rfl, Nat.zero_le _, PySem.int_text_fits hz⟩
end Lot

namespace Lot
open PySem PySem.Spec PyProof.Rows L2
theorem size_eq {h w h' w' : Nat} (hh : 0 < h) (e1 : h * w = h' * w') (e2 : h * (w + 1) = h' * (w' + 1)) : h = h' ∧ w = w' := by
  rw [Nat.mul_succ, Nat.mul_succ, e1] at e2
  have : h = h' := by omega
  subst this
  exact ⟨rfl, Nat.eq_of_mul_eq_mul_left hh e1⟩
theorem wide_high {bd bd' : Bd} (ok : bd.Ok 36) (hc : bd.cells = bd'.cells) (hw : bd.wide = bd'.wide) : bd.high = bd'.high := by
  have h1 : bd.high * bd.wide = bd'.high * bd'.wide := hc
  rw [hw] at h1
  have := (Bd.pos ok).2
  rw [hw] at this
  exact Nat.eq_of_mul_eq_mul_right this h1
theorem words_same {bd bd' : Bd} {ths : List (Str × Nat)} (ok : bd.Ok 36) (ok' : bd'.Ok 36) (hl : ths.length = bd.cells) (hc : bd.cells = bd'.cells) (hw : bd.wide = bd'.wide) : wordsFrom bd' 0 ths = wordsFrom bd 0 ths := by
  rw [words_is ok hl, words_is ok' (hl.trans hc), hw, wide_high ok hc hw]
theorem ne_of_cells {bd : Bd} {ths : List (Str × Nat)} (ok : bd.Ok 36) (hl : ths.length = bd.cells) : ths ≠ [] := fun e => by
  rw [e] at hl
  have : 0 = bd.cells := hl
  have := (Bd.cells_le ok).1
  omega
/-- a text of a standing, read for a board of as many cells -/
theorem read_wide {bd bd' : Bd} {ths : List (Str × Nat)} (ok : bd.Ok 36) (ok' : bd'.Ok 36) (hl : ths.length = bd.cells) (hc : bd.cells = bd'.cells) (hok : ∀ th ∈ ths, ThOk th) :
    (badAt bd' (textOf bd ths) = none ↔ bd'.wide = bd.wide) ∧ thingsIn (Txt.split (textOf bd ths) blank) = ths := by
  have hs : Txt.split (textOf bd ths) blank = wordsFrom bd 0 ths := text_split (ne_of_cells ok hl) hok
  obtain ⟨d1, d2, d3⟩ := words_due ok hl hok
  refine ⟨⟨fun h => ?_, fun h => ?_⟩, by rw [hs]; exact d3⟩
  · unfold badAt at h
    rw [hs] at h
    have e := (firstBad_none h (Nat.zero_le _)).2
    unfold dueMany at e
    have p := Bd.pos ok'
    have p1 : 1 ≤ bd'.high * (bd'.wide + 1) := Nat.mul_pos p.1 (Nat.succ_pos _)
    exact (size_eq (Bd.pos ok').1 hc.symm (show bd'.high * (bd'.wide + 1) = bd.high * (bd.wide + 1) by omega)).2
  · unfold badAt
    rw [hs, ← words_same ok ok' hl hc h.symm]
    obtain ⟨f1, f2, f3⟩ := words_due ok' (hl.trans hc) hok
    have e : (wordsFrom bd' 0 ths).length = dueMany bd' := by unfold dueMany; omega
    have g : Good bd' (wordsFrom bd' 0 ths) (wordsFrom bd' 0 ths).length := ⟨Nat.le_refl _, by omega, fun j z hj hz => by
      rw [f1 j z hz, decide_eq_false (by omega)]
      rfl⟩
    exact g.whole e
theorem shown_wide {bd bd' : Bd} {ths : List (Str × Nat)} (ok : bd.Ok 36) (ok' : bd'.Ok 36) (hl : ths.length = bd.cells) (hc : bd.cells = bd'.cells) (hok : ∀ th ∈ ths, ThOk th) :
    textOf bd' ths = textOf bd ths ↔ bd'.wide = bd.wide := by
  constructor
  · intro h
    have h1 := text_split (bd := bd) (ne_of_cells ok hl) hok
    have h2 := text_split (bd := bd') (ne_of_cells ok hl) hok
    rw [h] at h2
    have e := h2.symm.trans h1
    have d := (words_due ok hl hok).2.1
    have d' := (words_due ok' (hl.trans hc) hok).2.1
    rw [e] at d'
    exact (size_eq (Bd.pos ok').1 hc.symm (show bd'.high * (bd'.wide + 1) = bd.high * (bd.wide + 1) by omega)).2
  · intro h
    unfold textOf
    rw [words_same ok ok' hl hc h.symm]
theorem shown_inj {bd : Bd} {a b : List (Str × Nat)} (ok : bd.Ok 36) (ha : a.length = bd.cells) (hb : b.length = bd.cells) (oka : ∀ th ∈ a, ThOk th) (okb : ∀ th ∈ b, ThOk th) : textOf bd a = textOf bd b ↔ a = b := by
  constructor
  · intro h
    have h1 := (read_wide ok ok ha rfl oka).2
    have h2 := (read_wide ok ok hb rfl okb).2
    rw [h] at h1
    exact h1.symm.trans h2
  · intro h; rw [h]
/-! ### standings compared -/
theorem eqv_dth (x y : Str × Nat) : PyData.eqv (dth x) (dth y) = decide (x = y) := by
  obtain ⟨a, i⟩ := x
  obtain ⟨b, j⟩ := y
  show ((a == b) && (((i : Int) == (j : Int)) && true)) = _
  rw [Bool.and_true]
  by_cases h1 : a = b
  · subst h1
    by_cases h2 : i = j
    · subst h2
      simp
    · have h3 : ((i : Int) == (j : Int)) = false := by
        rw [beq_eq_false_iff_ne]
        omega
      rw [h3, Bool.and_false, decide_eq_false fun z => h2 (Prod.mk.inj z).2]
  · have h3 : (a == b) = false := by rw [beq_eq_false_iff_ne]; exact h1
    rw [h3, Bool.false_and, decide_eq_false fun z => h1 (Prod.mk.inj z).1]
theorem eqv_stand : ∀ a b : List (Str × Nat), PyData.eqvAll (a.map dth) (b.map dth) = decide (a = b)
  | [], [] => rfl
  | [], _ :: _ => rfl
  | _ :: _, [] => rfl
  | x :: a, y :: b => by
    show (PyData.eqv (dth x) (dth y) && PyData.eqvAll (a.map dth) (b.map dth)) = _
    rw [eqv_dth, eqv_stand a b]
    by_cases h1 : x = y
    · subst h1
      by_cases h2 : a = b
      · subst h2; simp
      · rw [decide_eq_false h2, Bool.and_false, decide_eq_false fun z => h2 (List.cons.inj z).2]
    · rw [decide_eq_false h1, Bool.false_and, decide_eq_false fun z => h1 (List.cons.inj z).1]
theorem dth_can {th : Str × Nat} (h : ThOk th) : PyData.canLay0 (dth th) = true := by
  show (PyData.strOk th.1 && (true && true)) = true
  rw [Bool.and_true, Bool.and_true]
  unfold PyData.strOk
  rw [Array.all_eq_true']
  intro c hc
  have := (h.1.2.2 c (by simpa using hc)).2
  exact decide_eq_true (by omega)
theorem dStand_shaped {ths : List (Str × Nat)} (h : ∀ th ∈ ths, ThOk th) : SeqAt.shaped (dStand ths) = true := by
  unfold SeqAt.shaped
  rw [Bool.and_eq_true]
  refine ⟨?_, decide_eq_true ?_⟩
  · show PyData.canLayAll0 (ths.map dth) = true
    induction ths with
    | nil => rfl
    | cons t r ih =>
      show (PyData.canLay0 (dth t) && PyData.canLayAll0 (r.map dth)) = true
      rw [dth_can (h t List.mem_cons_self), ih fun x hx => h x (List.mem_cons_of_mem _ hx)]
      rfl
  · have := dAll_depth ths
    show PyData.depthAll (ths.map dth) + 1 ≤ 64
    omega
end Lot
namespace Lot
open PySem PySem.Spec PyProof.Rows L2
theorem cut_take (xs : List V) {n : Nat} (h : n ≤ xs.length) : cutV xs none (some (n : Int)) = xs.take n := by
  unfold cutV
  have e1 : HT.sIx xs.length xs.length (some (n : Int)) = min n xs.length := HT.sIx_nat _ _ _
  rw [e1, HT.sIx_none, List.drop_zero, Nat.sub_zero, Nat.min_eq_left h]
theorem cut_drop (xs : List V) {n : Nat} (h : n ≤ xs.length) : cutV xs (some (n : Int)) none = xs.drop n := by
  unfold cutV
  have e1 : HT.sIx xs.length 0 (some (n : Int)) = min n xs.length := HT.sIx_nat _ _ _
  rw [e1, HT.sIx_none, Nat.min_eq_left h]
  exact List.take_of_length_le (by rw [List.length_drop]; exact Nat.le_refl _)
theorem catA_any {K : PySem.W.Frag} {H : Hp} {a b : Addr} {xs ys : List V} {Q : VK} (ha : H a = some (.tup xs)) (hb : H b = some (.tup ys)) (hz : xs.length + ys.length ≤ sizeLine) (q : ∀ o H', Same H H' → H' o = some (.tup (xs ++ ys)) → Q (.ref o) H') :
    rCatA K (.ref a) (.ref b) H Q := by
  refine ⟨a, b, xs, ys, rfl, rfl, .inl (.inl ha), .inl (.inl hb), hz, fun e => ?_, fun _ e => ?_, fun _ _ p np => q p _ (same_upd np) upd_same⟩
  · subst e
    exact q b H (Same.refl H) hb
  · subst e
    exact q a H (Same.refl H) (by rw [List.append_nil]; exact ha)
theorem Things.app {H : Hp} : ∀ {as : List Addr} {ts : List (Str × Nat)} {bs : List Addr} {us : List (Str × Nat)}, Things H as ts → Things H bs us → Things H (as ++ bs) (ts ++ us)
  | [], [], _, _, _, g => g
  | _ :: _, _ :: _, _, _, h, g => ⟨h.1, Things.app h.2 g⟩
  | [], _ :: _, _, _, h, _ => h.elim
  | _ :: _, [], _, _, h, _ => h.elim
theorem Things.take {H : Hp} : ∀ {as : List Addr} {ts : List (Str × Nat)} (n : Nat), Things H as ts → Things H (as.take n) (ts.take n)
  | _, _, 0, _ => trivial
  | [], [], n + 1, _ => trivial
  | _ :: _, _ :: _, n + 1, h => ⟨h.1, Things.take n h.2⟩
  | [], _ :: _, _ + 1, h => h.elim
  | _ :: _, [], _ + 1, h => h.elim
theorem Things.drop {H : Hp} : ∀ {as : List Addr} {ts : List (Str × Nat)} (n : Nat), Things H as ts → Things H (as.drop n) (ts.drop n)
  | _, _, 0, h => h
  | [], [], n + 1, _ => trivial
  | _ :: _, _ :: _, n + 1, h => Things.drop n h.2
  | [], _ :: _, _ + 1, h => h.elim
  | _ :: _, [], _ + 1, h => h.elim
theorem Bd.last (bd : Bd) : atI bd.vals (-1) = some (.int bd.wide) := by
  cases bd with
  | row n => rfl
  | ring n => rfl
  | floor h w => rfl
theorem bl_eq {a b : Bool} (h : a = b) : V.bl a = V.bl b := by rw [h]
theorem dec_str (a b : Str) : decide (V.str a = V.str b) = decide (a = b) := by
  by_cases h : a = b
  · rw [h]; simp
  · rw [decide_eq_false h, decide_eq_false fun z => h (V.str.inj z)]
theorem dec_nat (a b : Nat) : decide (V.int (a : Int) = V.int (b : Int)) = decide (a = b) := by
  by_cases h : a = b
  · rw [h]; simp
  · rw [decide_eq_false h, decide_eq_false fun z => h (by have := V.int.inj z; omega)]
end Lot

/-! An own exception that a clause takes and keeps under a further name: a thing of the heap from then on. -/
namespace Lot
open PySem PySem.Spec PyProof.Rows L2
/-- a caught exception of the class cls, its dict at d, at a -/
def ExK (cls : Value) (d : Option Addr) (a : Addr) : HO := .ext fun h => ∃ (oe : Obj) (vs : Array Value), h.get? a = some oe ∧ Zc cls d oe ∧ oe.data = .fields vs
theorem exK_ok {P : Program} {w : World} {H : Hp} {h : Heap} {a : Addr} {cls : Value} {d : Option Addr} {oe : Obj} {vs : Array Value} (e : h.get? a = some oe) (z : Zc cls d oe) (dd : oe.data = .fields vs) : ObjOk P w H h a (ExK cls d a) :=
  ⟨⟨oe, vs, e, z, dd⟩, ⟨oe, e⟩, fun _ _ ⟨o, v, q, r⟩ k => ⟨o, v, k o q, r⟩⟩
section
variable {X : Cx} {pins : List (Addr × Obj)} {σ : L2.St} {H : Hp} {sI s s' : Shared} {B : Heap}
theorem landedN (I : Inv X pins σ H sI) (J : Inv X pins σ H s') (hx : X.ex = []) {a : Addr} {o : HO} (hn : sI.heap.get? a = none) (na : H a = none) (new : ObjOk X.prog X.w (upd H a o) s'.heap a o) : Inv X pins σ (upd H a o) s' := by
  have ne0 : ∀ b u, sI.heap.get? b = some u → b ≠ a := fun b u e z => by rw [z, hn] at e; cases e
  have nex : ∀ b, b ∉ X.ex := fun b hb => by rw [hx] at hb; cases hb
  have neB : ∀ b u, X.s_0.heap.get? b = some u → b ≠ a := fun b u e => by
    obtain ⟨u', e'⟩ := I.base.there b u e (nex b)
    exact ne0 b u' e'
  have neL : X.env.locals ≠ a := by
    obtain ⟨m, ⟨ob, _, _, ho, _⟩, _⟩ := I.loc
    exact ne0 _ _ ho
  refine ⟨J.ok, J.os, J.bare, ⟨J.base.keep, J.base.slot, fun b u e n hq => ?_, J.base.there, fun b xs e => ?_, fun b u v e => ?_, fun b ps e => ?_⟩, J.loc, J.cell, ?_, fun x c e => ?_, fun p hp => ?_, J.hok.laidN (fun _ _ q => q) na new, J.len⟩
  · rw [upd_ne (neB b u e)]; exact J.base.free b u e n hq
  · have q := J.base.tups b xs e
    rw [upd_ne (ne_of_none q na)]; exact q
  · have q := J.base.frzs b u v e
    rw [upd_ne (ne_of_none q na)]; exact q
  · obtain ⟨m, q⟩ := J.base.tbls b ps e
    exact ⟨m, by rw [upd_ne (ne_of_none q na)]; exact q⟩
  · rw [upd_ne neL]; exact J.free
  · obtain ⟨v, ob, ho, _⟩ := I.cell x c e
    rw [upd_ne (ne0 _ _ ho)]; exact J.freeC x c e
  · obtain ⟨e, n, r⟩ := J.pin p hp
    have z := ne0 _ _ (I.pin p hp).1
    exact ⟨e, by rw [upd_ne z]; exact n, r⟩
theorem inSuite (I : Inv X pins σ H s) (a : Addr) : Inv (X.suite a (X.pn ++ pins)) [] σ H s :=
  ⟨I.ok.suite _ _, I.os, I.bare, I.base, I.loc, I.cell, I.free, I.freeC, fun p hp => I.pin p (by rw [List.append_nil] at hp; exact hp), I.hok, I.len⟩
theorem offSuite {a : Addr} {pn' : List (Addr × Obj)} (I : Inv (X.suite a (X.pn ++ pins)) pn' σ H s) (ok : X.Ok) : Inv X pins σ H s :=
  ⟨ok, I.os, I.bare, I.base, I.loc, I.cell, I.free, I.freeC, fun p hp => I.pin p (List.mem_append_left _ hp), I.hok, I.len⟩
end
/-- the wish of a clause that takes every exception of the body and keeps it: slot i is the clause's name -/
def wHeld (K : PySem.W.Frag) (c : Value) (i : Nat) (ts : Addr → TS) (D : Ends) : WX := fun cls d σ H =>
  PySem.W.exmOne K cls c = some true ∧ ∀ a, H a = none → ts a { nx := fun σ' H' => D.nx (σ'.set i none) H', rt := D.rt, bk := fun σ' H' => D.bk (σ'.set i none) H', ct := fun σ' H' => D.ct (σ'.set i none) H' } (σ.set i (some (.ref a))) (upd H a (ExK cls d a))
section
variable {X : Cx} {x n : Str} {c : Value} {i : Nat} {body suite : List Stmt} {b₀ : Stmt} {np pos pos' : Pos} {tb : WX → TS} {ts : Addr → TS}
theorem ps_try_held (hx : X.ex = []) (hs : X.stack = X.env :: X.outer) (hf : X.env.frame = some X.env.locals) (hN : X.N.Nodup) (hi : X.N[i]? = some n) (hln : X.env.kindOf n = some .local) (hc : Names X x c)
    (hb : ∀ (W : WX) (pn : List (Addr × Obj)) (xe : Value → Shared → Prop), Takes (X.tr pn xe) W → PassesOwn (model X.prog X.w) X.A X.env xe → PSs (X.tr pn xe) body (tb W))
    (hsu : ∀ (a : Addr) (pn : List (Addr × Obj)), PSs (X.suite a pn) (b₀ :: suite) (ts a)) :
    PS X (.Try body [.ExceptHandler (some (.Name x np)) (some n) (b₀ :: suite) pos'] [] [] pos) (fun D σ H => tb (wHeld X.K c i ts D) D σ H) := by
  refine ⟨fun pins s σ H D I h => ?_⟩
  have ok := I.ok
  have hfr : X.A.frames = some (X.env :: X.outer) := ok.frames.trans (by rw [hs])
  refine wpAny_Try_except ?_
  refine wpAny_mono ((hb (wHeld X.K c i ts D) (X.pn ++ pins) (fun e s₁ => wpAny (model X.prog X.w) X.A (noteFrame e X.env) (fun _ s₂ => wpAny (model X.prog X.w) X.A (setFlight e none) (fun _ s₃ =>
    wpAny (model X.prog X.w) X.A (handleBy e X.env [.ExceptHandler (some (.Name x np)) (some n) (b₀ :: suite) pos']) (SP X pins D) X.xe s₃) X.xe s₂) X.xe s₁) (fun u s' xx => ?_) PassesOwn.looking).run [] s σ H D (I.toTry _) h) (fun f s1 hsp => ?_) fun _ _ he => he
  · obtain ⟨a, B, sI, pins', σ', H', cls, d, rfl, J', nb, up, sky, na, os, ag, hb1, hyes⟩ := xx
    have J : Inv X pins σ' H' sI := J'.ofTry ok
    have sky' : Sky B (X.env :: X.outer) a (Zc cls d) X.env.locals s'.heap := hs ▸ sky
    show wpAny (model X.prog X.w) X.A (noteFrame (.ref a) X.env) _ _ _
    refine Sky.land Zc.steady hfr hf sky' fun h3 fl3 up3 => ?_
    have J3 := inSuite (J.landed (s' := { s' with heap := h3 }) nb fl3.1 (up.trans up3) os ag) a
    obtain ⟨oe3, vs3, he3, hz3, hd3⟩ := fl3.there
    have nfr : a ∉ frs X.stack := fun hm => by
      rw [hs] at hm
      obtain ⟨_, o', e', hnf⟩ := fl3.2.2.1.mem hm
      rw [he3] at e'; cases e'
      exact hnf _ hd3
    have hn : sI.heap.get? a = none := by
      cases e : sI.heap.get? a with
      | none => rfl
      | some o =>
        have z := nb a o e nfr
        rw [fl3.2.1] at z; cases z
    refine wpAny_handleBy_cons (codeAny_handlers_test ?_) (by intro q; cases q)
    have LT : PySem.W.Looks (model X.prog X.w) h3 (typeOf (.ref a)) cls := fun A Q E s k q => wpAny_typeOf_ref (k _ _ he3) (by rw [hz3.1]; exact q)
    have LM := PySem.W.exm_one (M := model X.prog X.w) J3.kIn LT hb1
    have test : ∀ {Q E : Value → Shared → Prop}, Q c { s' with heap := h3 } → wpAny (model X.prog X.w) (X.A.mark (some (.ref a))) (eval (.Name x np) X.env) Q E { s' with heap := h3 } := fun {Q E} q => by
      obtain ⟨hg, hdbg, hm | ⟨hm, hv, hnn⟩⟩ := hc
      · exact ld_glob (X := X.suite a (X.pn ++ pins)) J3 hg hm q hdbg
      · exact ld_blt (X := X.suite a (X.pn ++ pins)) J3 hg hm hv q hnn hdbg
    refine test (LM.here (codeAny_handlers_suite_as ?_))
    refine HandSPX.lands_againZ fl3 fun h4 fl4 up4 => ?_
    have J4 : Inv X pins σ' H' { s' with heap := h4 } := J.landed nb fl4.1 ((up.trans up3).trans up4) os ag
    obtain ⟨oe4, vs4, he4, hz4, hd4⟩ := fl4.there
    have S4 := inSuite (landedN J J4 hx hn na (exK_ok he4 hz4 hd4)) a
    refine store_ok (X := X.suite a (X.pn ++ pins)) (v := .ref a) S4 hN hi (.inl hln) rfl (fun s5 S5 => ?_) (.inr hln)
    refine wpAny_mono ((hsu a (X.pn ++ pins)).run [] s5 _ _ _ S5 (hyes a na)) (fun f s6 hsp => ?_) fun _ _ z => z.elim
    have gone : ∀ {σ6 : L2.St} {H6 : Hp} {Q : Shared → Prop}, Inv (X.suite a (X.pn ++ pins)) [] σ6 H6 s6 → (∀ s7, Inv X pins (σ6.set i none) H6 s7 → Q s7) →
        wpAny (model X.prog X.w) X.A (do bindName X.env n .none; unbindBehindTheSuite X.env n pos') (fun _ s7 => Q s7) X.xe s6 := fun {σ6 H6 Q} S6 hq => gone_ok (offSuite S6 ok) hN hi hln hq
    cases f with
    | next =>
      obtain ⟨σ6, H6, S6, q6⟩ := hsp
      exact gone S6 fun s7 J7 => ⟨_, _, J7, q6⟩
    | brk =>
      obtain ⟨σ6, H6, S6, q6⟩ := hsp
      exact gone S6 fun s7 J7 => ⟨_, _, J7, q6⟩
    | cont =>
      obtain ⟨σ6, H6, S6, q6⟩ := hsp
      exact gone S6 fun s7 J7 => ⟨_, _, J7, q6⟩
    | ret u =>
      obtain ⟨v6, σ6, H6, S6, r6, q6⟩ := hsp
      exact gone S6 fun s7 J7 => ⟨_, _, _, J7, r6, q6⟩
  · cases f with
    | next =>
      obtain ⟨σ', H', J', q⟩ := hsp
      exact wpAny_execs_nil ⟨σ', H', J'.ofTry ok, q⟩
    | brk =>
      obtain ⟨σ', H', J', q⟩ := hsp
      exact ⟨σ', H', J'.ofTry ok, q⟩
    | cont =>
      obtain ⟨σ', H', J', q⟩ := hsp
      exact ⟨σ', H', J'.ofTry ok, q⟩
    | ret u =>
      obtain ⟨v, σ', H', J', r, q⟩ := hsp
      exact ⟨v, σ', H', J'.ofTry ok, r, q⟩
end
section
variable {X : Cx} {st : Stmt} {qual fld : Str} {msg : Expr} {C fI cc cda : Addr}
/-- a kept one stands as an instance -/
theorem held_at {pins : List (Addr × Obj)} {σ : L2.St} {H : Hp} {s : Shared} (I : Inv X pins σ H s) {a d : Addr} {fs : List (Str × V)} (ea : H a = some (ExK (.ref C) (some d) a)) (ed : H d = some (.xd fs)) :
    ∃ (oe : Obj) (od : Obj) (mA : Str → Option Value), PySem.W.InstAt s.heap a oe C (some od) ∧ (∀ f, PySem.W.lookIn f od = some (mA f)) ∧ ∀ f, RelO (fs.lookup f) (mA f) := by
  obtain ⟨⟨oe, vs, ha, hz, hd⟩, _⟩ := I.hok a _ ea
  have hx : ObjOk X.prog X.w H s.heap d (.xd fs) := I.hok d _ ed
  obtain ⟨mA, hns, hr⟩ := hx
  obtain ⟨od, ho, hl⟩ := lookIn_ns hns
  exact ⟨oe, od, mA, ⟨ha, hz.1, by unfold PySem.W.notCls; rw [hd] <;> rfl, by rw [hz.2]; exact ho⟩, hl, hr⟩
/-- e.fld, e a kept one -/
def tHeldFld (C : Addr) (fld : Str) (te : TE) : TE := fun σ H Q => te σ H fun x H1 => ∃ (a d : Addr) (v : V), x = .ref a ∧ H1 a = some (ExK (.ref C) (some d) a) ∧ H1 d = some (.xd [(fld, v)]) ∧ Q v H1
theorem pe_heldFld {e : Expr} {te : TE} {pos : Pos} (T : SupTxt X.prog X.K st qual fld msg C fI cc cda) (he : PE X e te)
    (hb : attributeBase e fld X.env (eval e X.env) = eval e X.env := by rfl) (hnd : (fld == ("__dict__" : Str)) = false := by decide) (hnc : (fld == ("__class__" : Str)) = false := by decide) :
    PE X (.Attribute e fld pos) (tHeldFld C fld te) := by
  refine ⟨fun pins s σ H Q I h => ?_⟩
  refine attr_of hb (thn (he.run pins s σ H _ I h) fun u s1 hh => ?_)
  obtain ⟨x, H1, I1, rx, a, d, v, ex, ea, ed, q⟩ := hh
  subst ex
  obtain rfl : u = Value.ref a := rx
  obtain ⟨oe, od, mA, J, hl, hr⟩ := held_at I1 ea ed
  have l : List.lookup fld [(fld, v)] = some v := by simp [List.lookup]
  obtain ⟨u, hu, ru⟩ := RelO.some_of (v := v) (o := mA fld) (by rw [← l]; exact hr fld)
  exact HandSPX.exc_get I1.kIn J T.ga T.gg T.exC (PySem.W.findObj_own T.hdC T.no rfl (by rw [hl, hu])) (handed_of ru) ⟨v, H1, I1.tok _, ru, q⟩
/-- what isinstance looks at in the class of a kept one -/
structure IsTxt (K : PySem.W.Frag) (C : Addr) : Prop where
  cl : PySem.W.isClsIn K C = true
  ga : PySem.W.findIn K (.ref C) "__getattribute__" = some (some (.builtin "BaseException.__getattribute__"))
  gg : PySem.W.findIn K (.ref C) "__getattr__" = some none
  ex : PySem.W.subIn K (.ref C) (.type "BaseException") = some true
  ca : PySem.W.findIn K (.ref C) "__class__" = some (some (.builtin "object.__class__"))
  cn : PySem.W.specialIn K (.builtin "object.__class__") "__get__" = some (some (.builtin "getset_descriptor.__get__"))
  ct : PySem.W.takesIn K (.builtin "object.__class__") = some true
  mo : PySem.W.mroIn K C (.type "object") = some true
/-- isinstance(e, c), e a kept one, c a class or a tuple of classes just laid -/
def rIsK (K : PySem.W.Frag) (C : Addr) : List V → Hp → VK → Prop := fun xs H Q => ∃ (a d : Addr) (fs : List (Str × V)) (c : V) (u : Value) (b : Bool), xs = [.ref a, c] ∧ H a = some (ExK (.ref C) (some d) a) ∧ H d = some (.xd fs) ∧ ClsV c u ∧ PySem.W.kitOne K (.ref C) u = some b ∧ Q (.bl b) H
def rIsKT (K : PySem.W.Frag) (C : Addr) : List V → Hp → VK → Prop := fun xs H Q => ∃ (a d tp : Addr) (fs : List (Str × V)) (cs : List V) (us : List Value) (b : Bool), xs = [.ref a, .ref tp] ∧ H a = some (ExK (.ref C) (some d) a) ∧ H d = some (.xd fs) ∧ H tp = some (.tup cs) ∧ Paired ClsV cs us ∧ PySem.W.kitAny K (.ref C) us = some b ∧ Q (.bl b) H
theorem call_isK (T : IsTxt X.K C) : CallR X (.builtin "isinstance") (rIsK X.K C) := by
  intro pins s σ H xs us Q I r h
  obtain ⟨a, d, fs, c, u, b, rfl, ea, ed, k, e, q⟩ := h
  obtain ⟨u1, u2, rfl, r1, r2⟩ := vals2 r
  cases (show u1 = Value.ref a from r1)
  have e2 := k.eq r2
  subst e2
  obtain ⟨oe, od, mA, J, _, _⟩ := held_at I ea ed
  exact PySem.W.kia_one (PySem.W.kitx_exc T.cl T.ga T.gg T.ex T.ca T.cn T.ct T.mo) I.kIn J e (fun z => nomatch z) fun tk => ⟨.bl b, H, I.tok tk, rfl, q⟩
theorem call_isKT (T : IsTxt X.K C) : CallR X (.builtin "isinstance") (rIsKT X.K C) := by
  intro pins s σ H xs us Q I r h
  obtain ⟨a, d, tp, fs, cs, ws, b, rfl, ea, ed, hT, k, e, q⟩ := h
  obtain ⟨u1, u2, rfl, r1, r2⟩ := vals2 r
  cases (show u1 = Value.ref a from r1)
  cases (show u2 = Value.ref tp from r2)
  obtain ⟨oe, od, mA, J, _, _⟩ := held_at I ea ed
  obtain ⟨_, its, rv, o, h1, h2, n, h3⟩ := (show ObjOk X.prog X.w H s.heap tp (.tup cs) from I.hok tp _ hT)
  have e3 := ClsV.all k rv
  subst e3
  obtain ⟨oc, odd, dt, sl⟩ := o
  simp only at h2 h3
  subst h2 h3
  exact PySem.W.kia_tup (PySem.W.kitx_exc T.cl T.ga T.gg T.ex T.ca T.cn T.ct T.mo) I.kIn J h1 e (fun z => nomatch z) fun tk => ⟨.bl b, H, I.tok tk, rfl, q⟩
/-- a class of one's own against a class of one's own -/
theorem kit_own {K : PySem.W.Frag} {D : Addr} {b : Bool} (hc : PySem.W.isClsIn K D = true) (ht : PySem.W.typeIn K (.ref D) = some (.type "type")) (hs : PySem.W.subIn K (.ref C) (.ref D) = some b) (hne : C = D → b = true) : PySem.W.kitOne K (.ref C) (.ref D) = some b := by
  unfold PySem.W.kitOne
  by_cases h : (Value.ref C == Value.ref D) = true
  · rw [if_pos h, hne (Value.ref.inj (beq_iff_eq.mp h))]
  · rw [if_neg h]
    have hc' : (PySem.W.clsIn K D).isSome = true := hc
    show (if ((PySem.W.clsIn K D).isSome && PySem.W.typeIn K (.ref D) == some (.type "type")) = true then PySem.W.subIn K (.ref C) (.ref D) else none) = some b
    rw [hc', ht, if_pos (by rfl), hs]
theorem exm_own {K : PySem.W.Frag} {D : Addr} {b : Bool} (h1 : PySem.W.subIn K (.ref D) (.type "BaseException") = some true) (h2 : PySem.W.isClsIn K D = true) (h3 : PySem.W.typeIn K (.ref D) = some (.type "type")) (h4 : PySem.W.subIn K (.ref C) (.ref D) = some b) :
    PySem.W.exmOne K (.ref C) (.ref D) = some b := by
  have h2' : (PySem.W.clsIn K D).isSome = true := h2
  show (if (PySem.W.subIn K (.ref D) (.type "BaseException") == some true) = true then (if ((PySem.W.clsIn K D).isSome && PySem.W.typeIn K (.ref D) == some (.type "type")) = true then PySem.W.subIn K (.ref C) (.ref D) else none) else none) = some b
  rw [h1, h2', h3, if_pos (by rfl), if_pos (by rfl), h4]
end
end Lot
namespace Lot
open PySem PySem.Spec PyProof.Rows L2
/-- a def that says what it does where nothing is being shown, ready to be called there -/
structure GOk (P : Program) (w : World) (K : PySem.W.Frag) (mg : Str → Option Value) (base : Heap) (k : Nat) (f : Addr) (fd : FuncData) (ps : List Str) (sp : Sp) : Prop where
  len : ∀ vs H Q E, sp vs H Q E → vs.length = ps.length
  run : GRun P w K mg base CX0 k f fd ps sp
structure DefG (P : Program) (w : World) (K : PySem.W.Frag) (mg : Str → Option Value) (base : Heap) (k : Nat) (x : Str) (ps : List Str) (sp : Sp) (f : Addr) (fd : FuncData) : Prop where
  ok : GOk P w K mg base k f fd ps sp
  g : mg x = some (.ref f)
  kp : PySem.W.keepIn K (.ref f) = true
  b : Binds K fd ps []
section
variable {X : Cx} {k : Nat} {f : Addr} {fd : FuncData} {ps : List Str} {sp : Sp} {dvs : List V} {ds : List Value} {E : XK} {x : Str} {p pos : Pos} {e : Expr} {es : List Expr} {t : TA}
theorem pe_callG (hG : X.A.guards = some []) (F : GOk X.prog X.w X.K X.mg X.base k f fd ps sp) (hr : Room k X.A) (hg : Gl X x) (hm : X.mg x = some (.ref f)) (hk : PySem.W.keepIn X.K (.ref f) = true) (hb : Binds X.K fd ps ds) (hd : Vals dvs ds) (hx : Passes CX0 X E)
    (ha : PA X (e :: es) t) (hdb : (x == ("__debug__" : Str)) = false := by decide) (he : starEach (e :: es) X.env = (false, eval e X.env) :: starEach es X.env := by rfl) (hpl : (backTo pos (starEach es X.env)).any (·.1) = false := by rfl) :
    PE X (.Call (.Name x p) (e :: es) [] pos) (tCall sp dvs E t) := by
  refine ⟨fun pins s σ H Q I h => ?_⟩
  refine wpAny_Call_Name_kw (ld_glob I hg hm ?_ hdb)
  refine PySem.W.callWith_K (h₀ := X.base) I.ok.mod.kin hk (thn (ha.run pos pins s σ H _ I h) fun us s1 ⟨vs, H1, I1, r, q⟩ => ⟨I1.kIn, ?_⟩) he hpl
  have r2 : Vals (vs ++ dvs) (us ++ ds) := r.append hd
  have hl : (us ++ ds).length = ps.length := by rw [← r2.length]; exact F.len _ _ _ _ q
  refine wpAny_call (codeAny_mono (F.run X.A X.stack s1 H1 ⟨us, []⟩ (us ++ ds) (vs ++ dvs) Q E hG hr I1.env0 (hb s1 us I1.kIn hl) r2 q) fun r s' hq => ?_)
  match r, hq with
  | .error e, hq => exact hx pins σ H1 s1 e s' I1 hq
  | .ok (.ret u), hq => exact I1.after hq
  | .ok .next, hq => exact hq.elim
  | .ok .brk, hq => exact hq.elim
  | .ok .cont, hq => exact hq.elim
end
/-- another class of the program, none of C's bases -/
structure Other (K : PySem.W.Frag) (mg : Str → Option Value) (C : Addr) (x : Str) (D : Addr) : Prop where
  g : mg x = some (.ref D)
  k : PySem.W.kitOne K (.ref C) (.ref D) = some false
theorem kit_other {K : PySem.W.Frag} {C D : Addr} (hself : PySem.W.subIn K (.ref C) (.ref C) = some true) (hc : PySem.W.isClsIn K D = true) (ht : PySem.W.typeIn K (.ref D) = some (.type "type")) (hs : PySem.W.subIn K (.ref C) (.ref D) = some false) : PySem.W.kitOne K (.ref C) (.ref D) = some false :=
  kit_own hc ht hs fun h => by subst h; rw [hself] at hs; cases hs
theorem kit_self {K : PySem.W.Frag} {C : Addr} : PySem.W.kitOne K (.ref C) (.ref C) = some true := by
  unfold PySem.W.kitOne
  exact if_pos (beq_iff_eq.mpr rfl)
theorem kit_VE {K : PySem.W.Frag} {C : Addr} (h : PySem.W.subIn K (.ref C) (.type "ValueError") = some true) : PySem.W.kitOne K (.ref C) (.type "ValueError") = some true := by
  unfold PySem.W.kitOne
  rw [if_neg (fun z => by cases (beq_iff_eq.mp z : Value.ref C = Value.type "ValueError"))]
  show (if PySem.W.kitMeta "ValueError" = true then PySem.W.subIn K (.ref C) (.type "ValueError") else none) = some true
  rw [if_pos (by decide +kernel)]
  exact h
theorem kitAny_off {K : PySem.W.Frag} {t : Value} : ∀ {us : List Value}, (∀ u ∈ us, PySem.W.kitOne K t u = some false) → PySem.W.kitAny K t us = some false
  | [], _ => rfl
  | u :: r, h => kitAny_cons (h u List.mem_cons_self) (fun _ => kitAny_off fun v hv => h v (List.mem_cons_of_mem _ hv)) (fun z => by cases z)
theorem paired_own : ∀ ds : List Addr, Paired ClsV (ds.map V.ref) (ds.map Value.ref)
  | [] => .nil
  | d :: r => .cons (.own d) (paired_own r)
end Lot

namespace L_k03
open PySem PySem.Spec PyProof.Rows L2 Lot
def topS (i : Nat) : Stmt := PySem.Challenge.pw_stridelots_k03_texts_of_no_standing.main.body.getD i (.Pass ⟨0, 0, 0, 0⟩)
abbrev sPot : Stmt := topS 25
abbrev sDip : Stmt := topS 26
theorem scPot : FnScope ["script", "at", "cell"] ["script", "at"] (defScope sPot) := ⟨rfl, rfl, rfl, by decide +kernel, rfl, by decide +kernel, by decide +kernel⟩
theorem scDip : FnScope ["pot", "many", "digit", "mixed"] ["pot", "many"] (defScope sDip) := ⟨rfl, rfl, rfl, by decide +kernel, rfl, by decide +kernel, by decide +kernel⟩
section
variable {P : Program} {w : World} {K : PySem.W.Frag} {mg : Str → Option Value} {base : Heap}
def spPot (K : PySem.W.Frag) : Sp := fun vs H Q _ => ∃ (a : Addr) (ns : List Int) (i : Nat), vs = [.ref a, .int i] ∧ SqL K H a (ns.map V.int) ∧ i ≤ 1000 ∧
  ∀ p ws, H p = none → PotV 0 ws → Q (.ref p) (upd H p (.lst ws))
theorem ok_pot {f : Addr} {fd : FuncData} {k : Nat} (F : Fun K "_law_pot" "_law_pot" sPot f fd) (ml : mg "len" = none) (mx : mg "max" = none) : FnOk P w K mg base CX0 (k + 1) f fd ["script", "at"] (spPot K) := by
  refine F.ok scPot (fun vs H Q E h => ?_) (fun cdv A outer s H vs Q E hr h => ?_)
  · obtain ⟨a, ns, i, rfl, _⟩ := h
    rfl
  · obtain ⟨a, ns, i, rfl, hS, hi, q⟩ := h
    refine ⟨_, pss_cons (ps_set (i := 2) scPot.nd rfl (.inl rfl) pe_int)
      (pss_cons (ps_if (pt_cmpR op_lt (pv 1) (pe_callB call_len_seq (by rfl) ml PySem.boot_len (pa_cons (pv 0) pa_nil)) (nomark _))
          (pss_one (ps_set (i := 2) scPot.nd rfl (.inl rfl) (pe_ix ix_list (pv 0) (pv 1) (fun _ _ => rfl)))) pss_nil)
      (pss_one (ps_ret (pe_lst (pa_cons (pe_callB (call_max2 rfl) (by rfl) mx (by decide +kernel) (pa_cons pe_int (pa_cons (pe_op op_sub (pv 2) (pe_op op_pow pe_int pe_int)) pa_nil)))
        (pa_cons (pe_op op_add (pe_op op_mod (pv 2) (pe_op op_add (pe_op op_pow pe_int pe_int) pe_int)) (pe_op op_mul pe_int (pv 1)))
        (pa_cons pe_int pa_nil))))))), ?_⟩
    have fin : ∀ cell : Int, (0 ≤ if cell - 10 ^ (18 : Int).toNat > 0 then cell - 10 ^ (18 : Int).toNat else 0) ∧ 0 ≤ cell % (10 ^ (37 : Int).toNat + 43) + 104729 * (i : Int) ∧ cell % (10 ^ (37 : Int).toNat + 43) + 104729 * (i : Int) < 10 ^ 39 := fun cell => by
      have := modlt (a := cell) (b := 10 ^ (37 : Int).toNat + 43) (by decide)
      have e : (10 : Int) ^ (37 : Int).toNat + 43 + 104729 * 1000 < 10 ^ 39 := by decide
      refine ⟨?_, by omega, by omega⟩
      split <;> omega
    refine ⟨.int i, rfl, .ref a, rfl, a, ns.map V.int, rfl, .inl hS, _, _, rfl, rfl, _, rfl, ite2 (fun e => ?_) (fun e => ?_)⟩
    · have hlt : i < ns.length := by
        have := of_decide_eq_true e
        rw [List.length_map] at this
        omega
      refine ⟨.ref a, rfl, .int i, rfl, a, _, (i : Int), .int ns[i], rfl, rfl, hS, atI_nat (by rw [List.getElem?_map, List.getElem?_eq_getElem hlt]; rfl), ?_⟩
      refine ⟨_, rfl, 10, 18, rfl, rfl, ⟨by decide, by decide, by decide⟩, ns[i], _, rfl, rfl, 0, _, rfl, ?_⟩
      refine ⟨_, rfl, 10, 37, rfl, rfl, ⟨by decide, by decide, by decide⟩, _, _, rfl, rfl, ns[i], _, rfl, rfl, (by show (0 : Int) < 10 ^ 37 + 43; decide), ?_⟩
      refine ⟨.int i, rfl, 104729, (i : Int), rfl, rfl, .inl ⟨by decide, by decide⟩, _, _, rfl, rfl, ?_⟩
      exact ⟨(by show 3 ≤ sizeLine; decide), fun p np => q p _ np ⟨_, _, _, rfl, (fin ns[i]).1, (fin ns[i]).2.1, (fin ns[i]).2.2, Int.le_refl _, Int.le_refl _⟩⟩
    · refine ⟨_, rfl, 10, 18, rfl, rfl, ⟨by decide, by decide, by decide⟩, 0, _, rfl, rfl, 0, _, rfl, ?_⟩
      refine ⟨_, rfl, 10, 37, rfl, rfl, ⟨by decide, by decide, by decide⟩, _, _, rfl, rfl, 0, _, rfl, rfl, (by show (0 : Int) < 10 ^ 37 + 43; decide), ?_⟩
      refine ⟨.int i, rfl, 104729, (i : Int), rfl, rfl, .inl ⟨by decide, by decide⟩, _, _, rfl, rfl, ?_⟩
      exact ⟨(by show 3 ≤ sizeLine; decide), fun p np => q p _ np ⟨_, _, _, rfl, (fin 0).1, (fin 0).2.1, (fin 0).2.2, Int.le_refl _, Int.le_refl _⟩⟩
/-- a draw: a number below m; the pot changes alone -/
def spDip : Sp := fun vs H Q _ => ∃ (p : Addr) (m : Int) (N : Nat), vs = [.ref p, .int m] ∧ 0 < m ∧ m ≤ 10 ^ 18 ∧ PotAt H p N ∧ N ≤ 1000000 ∧
  ∀ (r : Nat) ws, (r : Int) < m → PotV (N + 1) ws → Q (.int r) (upd H p (.lst ws))
theorem ok_dip {f : Addr} {fd : FuncData} {k : Nat} (F : Fun K "_law_dip" "_law_dip" sDip f fd) : FnOk P w K mg base CX0 (k + 1) f fd ["pot", "many"] spDip := by
  refine F.ok scDip (fun vs H Q E h => ?_) (fun cdv A outer s H vs Q E hr h => ?_)
  · obtain ⟨p, m, N, rfl, _⟩ := h
    rfl
  · obtain ⟨p, m, N, rfl, hm, hm2, ⟨ws, hp, a, c, n, rfl, h0, h1, h2, h3, h4⟩, hN, q⟩ := h
    refine ⟨_, pss_cons (ps_if (pt_cmpR op_gt (pe_ix ix_list (pv 0) pe_int (fun _ _ => rfl)) pe_int (nomark _))
        (pss_cons (ps_set (i := 2) scDip.nd rfl (.inl rfl) (pe_op op_mod (pe_ix ix_list (pv 0) pe_int (fun _ _ => rfl)) (pv 1)))
        (pss_cons (ps_asg (pe_op op_fdivW (pe_ix ix_list (pv 0) pe_int (fun _ _ => rfl)) (pv 1)) (pg_sub (pv 0) pe_int set_list))
        (pss_one (ps_ret (pv 2))))) pss_nil)
      (pss_cons (ps_asg (pe_op op_add (pe_ix ix_list (pv 0) pe_int (fun _ _ => rfl)) pe_int) (pg_sub (pv 0) pe_int set_list))
      (pss_cons (ps_set (i := 3) scDip.nd rfl (.inl rfl) (pe_op op_mod (pe_op op_powW (pe_op op_add (pe_ix ix_list (pv 0) pe_int (fun _ _ => rfl)) (pe_op op_mul pe_int (pe_ix ix_list (pv 0) pe_int (fun _ _ => rfl)))) pe_int) (pe_op op_add (pe_op op_pow pe_int pe_int) pe_int)))
      (pss_cons (ps_set (i := 3) scDip.nd rfl (.inl rfl) (pe_op op_mod (pe_op op_powW (pe_op op_add (pv 3) (pe_op op_mul pe_int (pe_ix ix_list (pv 0) pe_int (fun _ _ => rfl)))) pe_int) (pe_op op_add (pe_op op_pow pe_int pe_int) pe_int)))
      (pss_one (ps_ret (pe_op op_mod (pe_op op_fdiv (pv 3) pe_int) (pv 1))))))), ?_⟩
    have hL : SqL K H p [.int a, .int c, .int n] := .inl (.inl hp)
    have i0 : atI ([.int a, .int c, .int n] : List V) 0 = some (.int a) := atI_nat (j := 0) rfl
    have i2 : atI ([.int a, .int c, .int n] : List V) 2 = some (.int n) := atI_nat (j := 2) rfl
    refine ⟨.ref p, rfl, p, _, 0, .int a, rfl, rfl, hL, i0, a, 0, rfl, rfl, _, rfl, ite2 (fun e => ?_) (fun e => ?_)⟩
    · have ha : 0 < a := of_decide_eq_true e
      have hr := modlt (a := a) hm
      refine ⟨.ref p, rfl, p, _, 0, .int a, rfl, rfl, hL, i0, .int m, rfl, a, m, rfl, rfl, hm, ?_⟩
      refine ⟨.ref p, rfl, p, _, 0, .int a, rfl, rfl, hL, i0, .int m, rfl, a, m, rfl, rfl, wide_div (b := 70) hm (int_lt_pow (Int.le_of_lt hm) (Int.lt_of_le_of_lt hm2 (by decide))) (by decide) (by decide), ?_⟩
      refine ⟨.ref p, rfl, p, _, 0, 0, rfl, rfl, hp, rfl, ?_⟩
      refine ⟨.int (a % m), rfl, ?_⟩
      have er : a % m = (((a % m).toNat : Nat) : Int) := (Int.toNat_of_nonneg hr.1).symm
      rw [er]
      exact q _ _ (by rw [← er]; exact hr.2) ⟨_, _, _, rfl, Int.ediv_nonneg h0 (by omega), h1, h2, h3, by omega⟩
    · refine ⟨.ref p, rfl, p, _, 2, .int n, rfl, rfl, hL, i2, n, 1, rfl, rfl, ?_⟩
      refine ⟨.ref p, rfl, p, _, 2, 2, rfl, rfl, hp, rfl, ?_⟩
      have hp2 : (upd H p (.lst [.int a, .int c, .int (n + 1)])) p = some (.lst [.int a, .int c, .int (n + 1)]) := upd_same
      have hL2 : SqL K (upd H p (.lst [.int a, .int c, .int (n + 1)])) p [.int a, .int c, .int (n + 1)] := .inl (.inl hp2)
      have j1 : atI ([.int a, .int c, .int (n + 1)] : List V) 1 = some (.int c) := atI_nat (j := 1) rfl
      have j2 : atI ([.int a, .int c, .int (n + 1)] : List V) 2 = some (.int (n + 1)) := atI_nat (j := 2) rfl
      refine ⟨.ref p, rfl, p, _, 1, .int c, rfl, rfl, hL2, j1, .ref p, rfl, p, _, 2, .int (n + 1), rfl, rfl, hL2, j2, 9999991, n + 1, rfl, rfl, .inl ⟨by decide, by decide⟩, c, _, rfl, rfl, ?_⟩
      have b1 : (c + 9999991 * (n + 1)).natAbs < 2 ^ 200 := int_lt_pow (by omega) (by
        have : (10 : Int) ^ 39 + 9999991 * 1000002 < 2 ^ 200 := by decide
        omega)
      refine ⟨_, 3, rfl, rfl, ⟨by decide, by decide, b1⟩, 10, 36, rfl, rfl, ⟨by decide, by decide, by decide⟩, _, 67, rfl, rfl, _, _, rfl, rfl, (by show (0 : Int) < 10 ^ 36 + 67; decide), ?_⟩
      obtain ⟨z, hz⟩ : ∃ z, z = (c + 9999991 * (n + 1)) ^ (3 : Int).toNat % (10 ^ (36 : Int).toNat + 67) := ⟨_, rfl⟩
      have hz1 := modlt (a := (c + 9999991 * (n + 1)) ^ (3 : Int).toNat) (b := 10 ^ (36 : Int).toNat + 67) (by decide)
      rw [← hz] at hz1
      refine ⟨.int z, congrArg (fun i => some (some (V.int i))) hz.symm, .ref p, rfl, p, _, 2, .int (n + 1), rfl, rfl, hL2, j2, 7919, n + 1, rfl, rfl, .inl ⟨by decide, by decide⟩, z, _, rfl, rfl, ?_⟩
      have b2 : (z + 7919 * (n + 1)).natAbs < 2 ^ 200 := int_lt_pow (by omega) (by
        have : (10 : Int) ^ (36 : Int).toNat + 67 + 7919 * 1000002 < 2 ^ 200 := by decide
        omega)
      refine ⟨_, 3, rfl, rfl, ⟨by decide, by decide, b2⟩, 10, 33, rfl, rfl, ⟨by decide, by decide, by decide⟩, _, 61, rfl, rfl, _, _, rfl, rfl, (by show (0 : Int) < 10 ^ 33 + 61; decide), ?_⟩
      obtain ⟨y, hy⟩ : ∃ y, y = (z + 7919 * (n + 1)) ^ (3 : Int).toNat % (10 ^ (33 : Int).toNat + 61) := ⟨_, rfl⟩
      refine ⟨.int y, congrArg (fun i => some (some (V.int i))) hy.symm, y, 4096, rfl, rfl, ⟨by decide, by decide⟩, .int m, rfl, y / 4096, m, rfl, rfl, hm, ?_⟩
      have hr := modlt (a := y / 4096) hm
      have er : y / 4096 % m = (((y / 4096 % m).toNat : Nat) : Int) := (Int.toNat_of_nonneg hr.1).symm
      show Q (.int (y / 4096 % m)) _
      rw [er]
      exact q _ _ (by rw [← er]; exact hr.2) ⟨_, _, _, rfl, h0, h1, h2, by omega, by omega⟩
end
end L_k03

namespace L_k03
open PySem PySem.Spec PyProof.Rows L2 Lot
abbrev sBoard : Stmt := topS 27
theorem scBoard : FnScope ["pot", "most", "way", "short", "long"] ["pot", "most"] (defScope sBoard) := ⟨rfl, rfl, rfl, by decide +kernel, rfl, by decide +kernel, by decide +kernel⟩
section
variable {P : Program} {w : World} {K : PySem.W.Frag} {mg : Str → Option Value} {base : Heap}
def spBoard : Sp := fun vs H Q _ => ∃ (p : Addr) (most : Nat) (N : Nat), vs = [.ref p, .int most] ∧ 20 ≤ most ∧ most ≤ 36 ∧ PotAt H p N ∧ N ≤ 1000 ∧
  ∀ H' b (bd : Bd), But p H H' → PotAt H' p (N + 4) → H b = none → H' b = some (.tup bd.vals) → bd.Ok most → 3 ≤ bd.cells → Q (.ref b) H'
theorem board_math {most r3 : Nat} {short : Int} (hm : 20 ≤ most) (h1 : 1 ≤ short) (h2 : 3 * short ≤ most) (h3 : (r3 : Int) < (most : Int) / short - 2) :
    1 ≤ short.toNat ∧ 1 ≤ 3 + r3 ∧ short.toNat * (3 + r3) ≤ most ∧ (3 + r3) * short.toNat ≤ most ∧ short = (short.toNat : Int) := by
  have e : short = (short.toNat : Int) := (Int.toNat_of_nonneg (by omega)).symm
  generalize short.toNat = n at *
  subst e
  have hn : 1 ≤ n := by omega
  have hle : 3 + r3 ≤ most / n := by
    have : (most : Int) / (n : Int) = ((most / n : Nat) : Int) := (Int.natCast_ediv most n).symm
    omega
  have hmul : n * (3 + r3) ≤ most := Nat.le_trans (Nat.mul_le_mul_left n hle) (Nat.mul_div_le most n)
  exact ⟨hn, by omega, hmul, by rw [Nat.mul_comm]; exact hmul, rfl⟩
theorem ok_board {f fD : Addr} {fd fdD : FuncData} (F : Fun K "_law_board" "_law_board" sBoard f fd) (D__law_dip : Def P w K mg base 1 "_law_dip" ["pot", "many"] spDip fD fdD) : FnOk P w K mg base CX0 2 f fd ["pot", "most"] spBoard := by
  refine F.ok scBoard (fun vs H Q E h => ?_) (fun cdv A outer s H vs Q E hr h => ?_)
  · obtain ⟨p, most, N, rfl, _⟩ := h
    rfl
  · obtain ⟨p, most, N, rfl, hm1, hm2, hP, hN, q⟩ := h
    refine ⟨_, (pss_cons (ps_set (i := 2) scBoard.nd rfl (by first | exact .inl rfl | exact .inr rfl) (pe_call D__law_dip.ok (hr.mono (by decide)) (by rfl) D__law_dip.g D__law_dip.kp D__law_dip.b .nil pass0 (pa_cons (pv 0) (pa_cons pe_int pa_nil))))
      (pss_cons (ps_if (pt_cmpR op_lt (pv 2) pe_int (nomark _)) (pss_one (ps_ret (pe_tup (pa_cons pe_str (pa_cons (pe_op op_add pe_int (pe_call D__law_dip.ok (hr.mono (by decide)) (by rfl) D__law_dip.g D__law_dip.kp D__law_dip.b .nil pass0 (pa_cons (pv 0) (pa_cons (pe_op op_sub (pv 1) pe_int) pa_nil)))) pa_nil))))) pss_nil)
      (pss_cons (ps_if (pt_cmpR op_eq (pv 2) pe_int (nomark _)) (pss_one (ps_ret (pe_tup (pa_cons pe_str (pa_cons (pe_op op_add pe_int (pe_call D__law_dip.ok (hr.mono (by decide)) (by rfl) D__law_dip.g D__law_dip.kp D__law_dip.b .nil pass0 (pa_cons (pv 0) (pa_cons (pe_op op_sub (pv 1) pe_int) pa_nil)))) pa_nil))))) pss_nil)
      (pss_cons (ps_set (i := 3) scBoard.nd rfl (by first | exact .inl rfl | exact .inr rfl) (pe_op op_add pe_int (pe_call D__law_dip.ok (hr.mono (by decide)) (by rfl) D__law_dip.g D__law_dip.kp D__law_dip.b .nil pass0 (pa_cons (pv 0) (pa_cons pe_int pa_nil)))))
      (pss_cons (ps_if (pt_cmpR op_gt (pe_op op_mul pe_int (pv 3)) (pv 1) (nomark _)) (pss_one (ps_set (i := 3) scBoard.nd rfl (by first | exact .inl rfl | exact .inr rfl) (pe_op op_fdiv (pv 1) pe_int))) pss_nil)
      (pss_cons (ps_set (i := 4) scBoard.nd rfl (by first | exact .inl rfl | exact .inr rfl) (pe_op op_add pe_int (pe_call D__law_dip.ok (hr.mono (by decide)) (by rfl) D__law_dip.g D__law_dip.kp D__law_dip.b .nil pass0 (pa_cons (pv 0) (pa_cons (pe_op op_sub (pe_op op_fdiv (pv 1) (pv 3)) pe_int) pa_nil)))))
      (pss_one (ps_ret (pe_ix ix_list (pe_lst (pa_cons (pe_tup (pa_cons pe_str (pa_cons (pv 3) (pa_cons (pv 4) pa_nil)))) (pa_cons (pe_tup (pa_cons pe_str (pa_cons (pv 4) (pa_cons (pv 3) pa_nil)))) pa_nil))) (pe_call D__law_dip.ok (hr.mono (by decide)) (by rfl) D__law_dip.g D__law_dip.kp D__law_dip.b .nil pass0 (pa_cons (pv 0) (pa_cons pe_int pa_nil))) (fun _ _ => rfl)))))))))), ?_⟩
    refine ⟨.ref p, rfl, p, 4, N, rfl, by decide, by decide, hP, by omega, fun r ws hr1 hw => ?_⟩
    have hP1 : PotAt (upd H p (.lst ws)) p (N + 1) := PotAt.upd hw
    have B1 : But p H (upd H p (.lst ws)) := But.upd
    generalize (upd H p (.lst ws)) = H1 at *
    have fresh : ∀ {H' : Hp} {b : Addr}, But p H H' → PotAt H' p (N + 3) → H' b = none → H b = none := fun {H' b} B hP h => by
      by_cases e : b = p
      · exact absurd e (hP.ne h)
      · cases z : H b with
        | none => rfl
        | some o => rw [B b o e z] at h; cases h
    refine ⟨.int r, rfl, r, 2, rfl, rfl, _, rfl, ite2 (fun e => ?_) (fun e => ?_)⟩
    · refine ⟨.ref p, rfl, .int most, rfl, most, 2, rfl, rfl, p, most - 2, N + 1, rfl, by omega, by omega, hP1, by omega, fun r2 ws2 hr2 hw2 => ?_⟩
      refine ⟨3, r2, rfl, rfl, (by show 2 ≤ sizeLine; decide), fun b nb => ?_⟩
      have hP2 : PotAt (upd H1 p (.lst ws2)) p (N + 1 + 1) := PotAt.upd hw2
      have B2 := B1.trans (But.upd (p := p) (H := H1) (o := .lst ws2))
      have nb0 : H b = none := fresh B2 (hP2.mono (by omega)) nb
      refine q _ b (.row (3 + r2)) (B2.trans (But.of_same (same_upd nb))) ((hP2.updne (Ne.symm (hP2.ne nb))).mono (by omega)) nb0 ?_ ⟨by omega, by omega⟩ (by rw [show (Bd.row (3 + r2)).cells = 3 + r2 from Nat.one_mul _]; omega)
      rw [upd_same]
      rfl
    · refine ⟨.int r, rfl, rfl, _, rfl, ite2 (fun e => ?_) (fun e => ?_)⟩
      · refine ⟨.ref p, rfl, .int most, rfl, most, 4, rfl, rfl, p, most - 4, N + 1, rfl, by omega, by omega, hP1, by omega, fun r2 ws2 hr2 hw2 => ?_⟩
        refine ⟨5, r2, rfl, rfl, (by show 2 ≤ sizeLine; decide), fun b nb => ?_⟩
        have hP2 : PotAt (upd H1 p (.lst ws2)) p (N + 1 + 1) := PotAt.upd hw2
        have B2 := B1.trans (But.upd (p := p) (H := H1) (o := .lst ws2))
        have nb0 : H b = none := fresh B2 (hP2.mono (by omega)) nb
        refine q _ b (.ring (5 + r2)) (B2.trans (But.of_same (same_upd nb))) ((hP2.updne (Ne.symm (hP2.ne nb))).mono (by omega)) nb0 ?_ ⟨by omega, by omega⟩ (by rw [show (Bd.ring (5 + r2)).cells = 5 + r2 from Nat.one_mul _]; omega)
        rw [upd_same]
        rfl
      · refine ⟨.ref p, rfl, p, 6, N + 1, rfl, by decide, by decide, hP1, by omega, fun r2 ws2 hr2 hw2 => ?_⟩
        have hP2 : PotAt (upd H1 p (.lst ws2)) p (N + 2) := PotAt.upd hw2
        have B2 : But p H (upd H1 p (.lst ws2)) := B1.trans But.upd
        generalize (upd H1 p (.lst ws2)) = H2 at *
        refine ⟨1, r2, rfl, rfl, .int (1 + (r2 : Int)), rfl, 3, 1 + (r2 : Int), rfl, rfl, .inl ⟨by decide, by decide⟩, .int most, rfl, 3 * (1 + (r2 : Int)), most, rfl, rfl, _, rfl, ite2 (fun e => ?_) (fun e => ?_)⟩
        · have c := of_decide_eq_true e
          refine ⟨.int most, rfl, most, 3, rfl, rfl, ⟨by decide, by decide⟩, ?_⟩
          have hq : (most : Int) / ((most : Int) / 3) = ((most : Int) / ((most : Int) / 3)) := rfl
          obtain ⟨hs1, hs3⟩ : 1 ≤ ((most : Int) / 3) ∧ 3 * ((most : Int) / 3) ≤ most := by constructor <;> omega
          have hge : (3 : Int) ≤ (most : Int) / ((most : Int) / 3) := (Int.le_ediv_iff_mul_le (by omega)).mpr (by omega)
          have hle36 : (most : Int) / ((most : Int) / 3) ≤ 36 := by
            have h1 : (most : Int) / ((most : Int) / 3) ≤ most := Int.ediv_le_self _ (by omega)
            omega
          refine ⟨.ref p, rfl, .int most, rfl, .int (((most : Int) / 3)), rfl, most, ((most : Int) / 3), rfl, rfl, ⟨by omega, by omega⟩, _, 2, rfl, rfl, p, _, N + 2, rfl, ?_, ?_, hP2, by omega, fun r3 ws3 hr3 hw3 => ?_⟩
          · show (0 : Int) < (most : Int) / ((most : Int) / 3) - 2
            omega
          · show (most : Int) / ((most : Int) / 3) - 2 ≤ 10 ^ 18
            omega
          obtain ⟨m1, m2, m3, m4, es⟩ := board_math hm1 hs1 hs3 hr3
          have hP3 : PotAt (upd H2 p (.lst ws3)) p (N + 3) := PotAt.upd hw3
          have B3 : But p H (upd H2 p (.lst ws3)) := B2.trans But.upd
          generalize (upd H2 p (.lst ws3)) = H3 at *
          refine ⟨3, r3, rfl, rfl, .int (((most : Int) / 3)), rfl, .int (3 + (r3 : Int)), rfl, (by show 3 ≤ sizeLine; decide), fun t1 n1 => ?_⟩
          refine ⟨.int (3 + (r3 : Int)), rfl, .int (((most : Int) / 3)), rfl, (by show 3 ≤ sizeLine; decide), fun t2 n2 => ?_⟩
          refine ⟨(by show 2 ≤ sizeLine; decide), fun l nl => ?_⟩
          have S1 : Same H3 (upd H3 t1 (.tup [.str "floor", .int (((most : Int) / 3)), .int (3 + (r3 : Int))])) := same_upd n1
          have e1 : (upd H3 t1 (.tup [.str "floor", .int (((most : Int) / 3)), .int (3 + (r3 : Int))])) t1 = some (.tup [.str "floor", .int (((most : Int) / 3)), .int (3 + (r3 : Int))]) := upd_same
          have S2 : Same _ (upd (upd H3 t1 (.tup [.str "floor", .int (((most : Int) / 3)), .int (3 + (r3 : Int))])) t2 (.tup [.str "floor", .int (3 + (r3 : Int)), .int (((most : Int) / 3))])) := same_upd n2
          have e2 : (upd (upd H3 t1 (.tup [.str "floor", .int (((most : Int) / 3)), .int (3 + (r3 : Int))])) t2 (.tup [.str "floor", .int (3 + (r3 : Int)), .int (((most : Int) / 3))])) t2 = some (.tup [.str "floor", .int (3 + (r3 : Int)), .int (((most : Int) / 3))]) := upd_same
          have S3 := same_upd (o := .lst [.ref t1, .ref t2]) nl
          have el : upd (upd (upd H3 t1 (.tup [.str "floor", .int (((most : Int) / 3)), .int (3 + (r3 : Int))])) t2 (.tup [.str "floor", .int (3 + (r3 : Int)), .int (((most : Int) / 3))])) l (.lst [.ref t1, .ref t2]) l = some (.lst [.ref t1, .ref t2]) := upd_same
          have e1' := S3 _ _ (S2 _ _ e1)
          have e2' := S3 _ _ e2
          have SS := (S1.trans S2).trans S3
          generalize upd (upd (upd H3 t1 (.tup [.str "floor", .int (((most : Int) / 3)), .int (3 + (r3 : Int))])) t2 (.tup [.str "floor", .int (3 + (r3 : Int)), .int (((most : Int) / 3))])) l (.lst [.ref t1, .ref t2]) = H4 at *
          have hP4 : PotAt H4 p (N + 3) := hP3.same SS
          have lp : l ≠ p := fun z => by
            obtain ⟨vs, f, g⟩ := hP4
            rw [z, f] at el
            obtain ⟨_, _, _, rfl, _⟩ := g
            cases el
          have t1p : t1 ≠ p := fun z => by
            obtain ⟨vs, f, g⟩ := hP4
            rw [z, f] at e1'
            cases e1'
          have t2p : t2 ≠ p := fun z => by
            obtain ⟨vs, f, g⟩ := hP4
            rw [z, f] at e2'
            cases e2'
          have n1' : H3 t1 = none := n1
          have n2' : H3 t2 = none := S1.free n2
          have f1 : H t1 = none := fresh B3 (hP3.mono (by omega)) n1'
          have f2 : H t2 = none := fresh B3 (hP3.mono (by omega)) n2'
          refine ⟨.ref p, rfl, p, 2, N + 3, rfl, by decide, by decide, hP4, by omega, fun r4 ws4 hr4 hw4 => ?_⟩
          have B4 : But p H (upd H4 p (.lst ws4)) := (B3.trans (But.of_same SS)).trans But.upd
          have hP5 : PotAt (upd H4 p (.lst ws4)) p (N + 4) := PotAt.upd hw4
          have el5 : (upd H4 p (.lst ws4)) l = some (.lst [.ref t1, .ref t2]) := by rw [upd_ne lp]; exact el
          have e15 := (upd_ne (H := H4) (o := .lst ws4) t1p).trans e1'
          have e25 := (upd_ne (H := H4) (o := .lst ws4) t2p).trans e2'
          rw [es] at e15 e25
          have r4' : r4 = 0 ∨ r4 = 1 := by omega
          rcases r4' with rfl | rfl
          · refine ⟨l, _, 0, .ref t1, rfl, rfl, .inl (.inl el5), atI_nat (j := 0) rfl, ?_⟩
            exact q _ t1 (.floor (((most : Int) / 3)).toNat (3 + r3)) B4 hP5 f1 (by rw [e15]; rfl) ⟨m1, m2, m3⟩ (Nat.le_trans (show 3 ≤ 1 * (3 + r3) by omega) (Nat.mul_le_mul_right (3 + r3) m1))
          · refine ⟨l, _, 1, .ref t2, rfl, rfl, .inl (.inl el5), atI_nat (j := 1) rfl, ?_⟩
            exact q _ t2 (.floor (3 + r3) (((most : Int) / 3)).toNat) B4 hP5 f2 (by rw [e25]; rfl) ⟨m2, m1, m4⟩ (Nat.le_trans (show 3 ≤ (3 + r3) * 1 by omega) (Nat.mul_le_mul_left (3 + r3) m1))
        · have c : ¬ (most : Int) < 3 * (1 + (r2 : Int)) := fun z => e (decide_eq_true z)
          have hq : (most : Int) / (1 + (r2 : Int)) = ((most : Int) / (1 + (r2 : Int))) := rfl
          obtain ⟨hs1, hs3⟩ : 1 ≤ (1 + (r2 : Int)) ∧ 3 * (1 + (r2 : Int)) ≤ most := by constructor <;> omega
          have hge : (3 : Int) ≤ (most : Int) / (1 + (r2 : Int)) := (Int.le_ediv_iff_mul_le (by omega)).mpr (by omega)
          have hle36 : (most : Int) / (1 + (r2 : Int)) ≤ 36 := by
            have h1 : (most : Int) / (1 + (r2 : Int)) ≤ most := Int.ediv_le_self _ (by omega)
            omega
          refine ⟨.ref p, rfl, .int most, rfl, .int ((1 + (r2 : Int))), rfl, most, (1 + (r2 : Int)), rfl, rfl, ⟨by omega, by omega⟩, _, 2, rfl, rfl, p, _, N + 2, rfl, ?_, ?_, hP2, by omega, fun r3 ws3 hr3 hw3 => ?_⟩
          · show (0 : Int) < (most : Int) / (1 + (r2 : Int)) - 2
            omega
          · show (most : Int) / (1 + (r2 : Int)) - 2 ≤ 10 ^ 18
            omega
          obtain ⟨m1, m2, m3, m4, es⟩ := board_math hm1 hs1 hs3 hr3
          have hP3 : PotAt (upd H2 p (.lst ws3)) p (N + 3) := PotAt.upd hw3
          have B3 : But p H (upd H2 p (.lst ws3)) := B2.trans But.upd
          generalize (upd H2 p (.lst ws3)) = H3 at *
          refine ⟨3, r3, rfl, rfl, .int ((1 + (r2 : Int))), rfl, .int (3 + (r3 : Int)), rfl, (by show 3 ≤ sizeLine; decide), fun t1 n1 => ?_⟩
          refine ⟨.int (3 + (r3 : Int)), rfl, .int ((1 + (r2 : Int))), rfl, (by show 3 ≤ sizeLine; decide), fun t2 n2 => ?_⟩
          refine ⟨(by show 2 ≤ sizeLine; decide), fun l nl => ?_⟩
          have S1 : Same H3 (upd H3 t1 (.tup [.str "floor", .int ((1 + (r2 : Int))), .int (3 + (r3 : Int))])) := same_upd n1
          have e1 : (upd H3 t1 (.tup [.str "floor", .int ((1 + (r2 : Int))), .int (3 + (r3 : Int))])) t1 = some (.tup [.str "floor", .int ((1 + (r2 : Int))), .int (3 + (r3 : Int))]) := upd_same
          have S2 : Same _ (upd (upd H3 t1 (.tup [.str "floor", .int ((1 + (r2 : Int))), .int (3 + (r3 : Int))])) t2 (.tup [.str "floor", .int (3 + (r3 : Int)), .int ((1 + (r2 : Int)))])) := same_upd n2
          have e2 : (upd (upd H3 t1 (.tup [.str "floor", .int ((1 + (r2 : Int))), .int (3 + (r3 : Int))])) t2 (.tup [.str "floor", .int (3 + (r3 : Int)), .int ((1 + (r2 : Int)))])) t2 = some (.tup [.str "floor", .int (3 + (r3 : Int)), .int ((1 + (r2 : Int)))]) := upd_same
          have S3 := same_upd (o := .lst [.ref t1, .ref t2]) nl
          have el : upd (upd (upd H3 t1 (.tup [.str "floor", .int ((1 + (r2 : Int))), .int (3 + (r3 : Int))])) t2 (.tup [.str "floor", .int (3 + (r3 : Int)), .int ((1 + (r2 : Int)))])) l (.lst [.ref t1, .ref t2]) l = some (.lst [.ref t1, .ref t2]) := upd_same
          have e1' := S3 _ _ (S2 _ _ e1)
          have e2' := S3 _ _ e2
          have SS := (S1.trans S2).trans S3
          generalize upd (upd (upd H3 t1 (.tup [.str "floor", .int ((1 + (r2 : Int))), .int (3 + (r3 : Int))])) t2 (.tup [.str "floor", .int (3 + (r3 : Int)), .int ((1 + (r2 : Int)))])) l (.lst [.ref t1, .ref t2]) = H4 at *
          have hP4 : PotAt H4 p (N + 3) := hP3.same SS
          have lp : l ≠ p := fun z => by
            obtain ⟨vs, f, g⟩ := hP4
            rw [z, f] at el
            obtain ⟨_, _, _, rfl, _⟩ := g
            cases el
          have t1p : t1 ≠ p := fun z => by
            obtain ⟨vs, f, g⟩ := hP4
            rw [z, f] at e1'
            cases e1'
          have t2p : t2 ≠ p := fun z => by
            obtain ⟨vs, f, g⟩ := hP4
            rw [z, f] at e2'
            cases e2'
          have n1' : H3 t1 = none := n1
          have n2' : H3 t2 = none := S1.free n2
          have f1 : H t1 = none := fresh B3 (hP3.mono (by omega)) n1'
          have f2 : H t2 = none := fresh B3 (hP3.mono (by omega)) n2'
          refine ⟨.ref p, rfl, p, 2, N + 3, rfl, by decide, by decide, hP4, by omega, fun r4 ws4 hr4 hw4 => ?_⟩
          have B4 : But p H (upd H4 p (.lst ws4)) := (B3.trans (But.of_same SS)).trans But.upd
          have hP5 : PotAt (upd H4 p (.lst ws4)) p (N + 4) := PotAt.upd hw4
          have el5 : (upd H4 p (.lst ws4)) l = some (.lst [.ref t1, .ref t2]) := by rw [upd_ne lp]; exact el
          have e15 := (upd_ne (H := H4) (o := .lst ws4) t1p).trans e1'
          have e25 := (upd_ne (H := H4) (o := .lst ws4) t2p).trans e2'
          rw [es] at e15 e25
          have r4' : r4 = 0 ∨ r4 = 1 := by omega
          rcases r4' with rfl | rfl
          · refine ⟨l, _, 0, .ref t1, rfl, rfl, .inl (.inl el5), atI_nat (j := 0) rfl, ?_⟩
            exact q _ t1 (.floor ((1 + (r2 : Int))).toNat (3 + r3)) B4 hP5 f1 (by rw [e15]; rfl) ⟨m1, m2, m3⟩ (Nat.le_trans (show 3 ≤ 1 * (3 + r3) by omega) (Nat.mul_le_mul_right (3 + r3) m1))
          · refine ⟨l, _, 1, .ref t2, rfl, rfl, .inl (.inl el5), atI_nat (j := 1) rfl, ?_⟩
            exact q _ t2 (.floor (3 + r3) ((1 + (r2 : Int))).toNat) B4 hP5 f2 (by rw [e25]; rfl) ⟨m2, m1, m4⟩ (Nat.le_trans (show 3 ≤ (3 + r3) * 1 by omega) (Nat.mul_le_mul_left (3 + r3) m1))
end
end L_k03

namespace L_k03
open PySem PySem.Spec PyProof.Rows L2 Lot
abbrev sCells : Stmt := topS 28
theorem scCells : FnScope ["board"] ["board"] (defScope sCells) := ⟨rfl, rfl, rfl, by decide +kernel, rfl, by decide +kernel, by decide +kernel⟩
section
variable {P : Program} {w : World} {K : PySem.W.Frag} {mg : Str → Option Value} {base : Heap}
/-- _law_cells(board) -/
def spCells (K : PySem.W.Frag) : Sp := fun vs H Q _ => ∃ (b : Addr) (bd : Bd), vs = [.ref b] ∧ SqT K H b bd.vals ∧ bd.Ok 36 ∧ Q (.int bd.cells) H
theorem ok_cells {f : Addr} {fd : FuncData} (F : Fun K "_law_cells" "_law_cells" sCells f fd) : FnOk P w K mg base CX0 1 f fd ["board"] (spCells K) := by
  refine F.ok scCells (fun vs H Q E h => ?_) (fun cdv A outer s H vs Q E hr h => ?_)
  · obtain ⟨b, bd, rfl, _⟩ := h
    rfl
  · obtain ⟨b, bd, rfl, hB, ok, q⟩ := h
    refine ⟨_, pss_one (ps_ret (pe_ifExp (pt_cmpR op_eq (pe_ix ix_tup (pv 0) pe_int (fun _ _ => rfl)) pe_str (nomark _)) (pe_op op_mul (pe_ix ix_tup (pv 0) pe_int (fun _ _ => rfl)) (pe_ix ix_tup (pv 0) pe_int (fun _ _ => rfl))) (pe_ix ix_tup (pv 0) pe_int (fun _ _ => rfl)))), ?_⟩
    cases bd with
    | row n =>
      refine ⟨.ref b, rfl, b, _, 0, _, rfl, rfl, hB, atI_nat (j := 0) rfl, rfl, _, rfl, iteN (by decide +kernel) ?_⟩
      refine ⟨.ref b, rfl, b, _, 1, _, rfl, rfl, hB, atI_nat (j := 1) rfl, ?_⟩
      have e : (Bd.row n).cells = n := Nat.one_mul n
      rw [e] at q
      exact q
    | ring n =>
      refine ⟨.ref b, rfl, b, _, 0, _, rfl, rfl, hB, atI_nat (j := 0) rfl, rfl, _, rfl, iteN (by decide +kernel) ?_⟩
      refine ⟨.ref b, rfl, b, _, 1, _, rfl, rfl, hB, atI_nat (j := 1) rfl, ?_⟩
      have e : (Bd.ring n).cells = n := Nat.one_mul n
      rw [e] at q
      exact q
    | floor h w =>
      obtain ⟨o1, o2, o3⟩ := ok
      have h36 : h ≤ 36 := Nat.le_trans (Nat.le_mul_of_pos_right h o2) o3
      refine ⟨.ref b, rfl, b, _, 0, _, rfl, rfl, hB, atI_nat (j := 0) rfl, rfl, _, rfl, iteP (by decide +kernel) ?_⟩
      refine ⟨.ref b, rfl, b, _, 1, .int h, rfl, rfl, hB, atI_nat (j := 1) rfl, .ref b, rfl, b, _, 2, .int w, rfl, rfl, hB, atI_nat (j := 2) rfl, h, w, rfl, rfl, .inl ⟨by omega, by omega⟩, ?_⟩
      have e : (((Bd.floor h w).cells : Nat) : Int) = (h : Int) * (w : Int) := Int.natCast_mul h w
      rw [e] at q
      exact q
end
end L_k03

namespace L_k03
open PySem PySem.Spec PyProof.Rows L2 Lot
abbrev sName : Stmt := topS 29
theorem scName : FnScope ["style", "sign", "number", "letters", "one", "more", "sorts"] ["style", "sign", "number"] (defScope sName) := ⟨rfl, rfl, rfl, by decide +kernel, rfl, by decide +kernel, by decide +kernel⟩
section
variable {P : Program} {w : World} {K : PySem.W.Frag} {mg : Str → Option Value} {base : Heap}
/-- _law_name: a name -/
def spName : Sp := fun vs H Q _ => ∃ (style sign number : Nat), vs = [.int style, .int sign, .int number] ∧ style < 6 ∧ sign < 26 ∧ number < 1000 ∧ ∀ z H', Same H H' → NameOk z → Q (.str z) H'
theorem ok_name {f : Addr} {fd : FuncData} (F : Fun K "_law_name" "_law_name" sName f fd) (m_int : mg "int" = none) : FnOk P w K mg base CX0 1 f fd ["style", "sign", "number"] spName := by
  refine F.ok scName (fun vs H Q E h => ?_) (fun cdv A outer s H vs Q E hr h => ?_)
  · obtain ⟨a, b, c, rfl, _⟩ := h
    rfl
  · obtain ⟨style, sign, number, rfl, h1, h2, h3, q⟩ := h
    refine ⟨_, (pss_cons (ps_set (i := 3) scName.nd rfl (by first | exact .inl rfl | exact .inr rfl) pe_str)
      (pss_cons (ps_set (i := 4) scName.nd rfl (by first | exact .inl rfl | exact .inr rfl) (pe_ix ix_str (pv 3) (pe_op op_mod (pe_op op_add (pv 2) (pv 1)) pe_int) (fun _ _ => rfl)))
      (pss_cons (ps_set (i := 5) scName.nd rfl (by first | exact .inl rfl | exact .inr rfl) (pe_ix ix_str (pv 3) (pe_op op_mod (pe_op op_add (pe_op op_mul (pe_op op_fdiv (pv 2) pe_int) pe_int) (pv 1)) pe_int) (fun _ _ => rfl)))
      (pss_cons (ps_set (i := 6) scName.nd rfl (by first | exact .inl rfl | exact .inr rfl) (pe_lst (pa_cons (pe_op op_add_str (pv 4) (pe_op op_repS (pv 5) (pe_callTy call_int1 (by rfl) m_int (by decide +kernel) (pa_cons (pe_cmpR op_gt (pv 2) pe_int (nomark _)) pa_nil)))) (pa_cons (pe_op op_add_str (pv 5) (pv 4)) (pa_cons (pe_op op_add_str (pe_op op_add_str (pe_op op_repS (pe_ix ix_str (pv 3) (pv 1) (fun _ _ => rfl)) pe_int) (pv 4)) (pv 5)) (pa_cons (pe_op op_add_str (pe_op op_add_str (pv 4) (pv 5)) (pe_op op_repS (pe_ix ix_str (pv 3) (pv 1) (fun _ _ => rfl)) pe_int)) pa_nil))))))
      (pss_cons (ps_set (i := 6) scName.nd rfl (by first | exact .inl rfl | exact .inr rfl) (pe_op op_cat (pv 6) (pe_lst (pa_cons (pe_op op_add_str (pe_op op_add_str (pv 5) (pe_op op_repS (pe_ix ix_str (pv 3) (pv 1) (fun _ _ => rfl)) pe_int)) (pv 4)) (pa_cons (pe_op op_add_str (pe_op op_add_str (pe_slice sl_str (pv 3) (po_some (pv 1)) (po_some (pe_op op_add (pv 1) pe_int))) (pv 5)) (pe_op op_repS (pv 4) (pe_op op_add pe_int (pe_op op_mod (pv 2) pe_int)))) pa_nil)))))
      (pss_one (ps_ret (pe_ix ix_list (pv 6) (pv 0) (fun _ _ => rfl))))))))), ?_⟩
    have Z : abc.length ≤ sizeLine := by rw [abc_len]; decide
    -- one
    have o0 := modlt (a := (number : Int) + sign) (b := 26) (by decide)
    refine ⟨.str abc, rfl, .int number, rfl, .int sign, rfl, number, sign, rfl, rfl, _, 26, rfl, rfl, (by show (0 : Int) < 26; decide), abc, _, _, rfl, rfl, Z, abc_at o0.1 o0.2, ?_⟩
    have A1 : Abc 1 ⟨#[97 + (((number : Int) + sign) % 26).toNat]⟩ := .one (by omega) (by omega)
    -- more
    have o2 := modlt (a := (number : Int) / 26 * 5 + sign) (b := 26) (by decide)
    refine ⟨.str abc, rfl, .int number, rfl, number, 26, rfl, rfl, ⟨by decide, by decide⟩, (number : Int) / 26, 5, rfl, rfl, .inr ⟨by decide, by decide⟩, .int sign, rfl, _, sign, rfl, rfl, _, 26, rfl, rfl, (by show (0 : Int) < 26; decide), abc, _, _, rfl, rfl, Z, abc_at o2.1 o2.2, ?_⟩
    have A2 : Abc 1 ⟨#[97 + (((number : Int) / 26 * 5 + sign) % 26).toNat]⟩ := .one (by omega) (by omega)
    generalize hone : (⟨#[97 + (((number : Int) + sign) % 26).toNat]⟩ : Str) = one at *
    generalize hmore : (⟨#[97 + (((number : Int) / 26 * 5 + sign) % 26).toNat]⟩ : Str) = more at *
    obtain ⟨l2, hl2⟩ : ∃ l2 : Str, l2 = ⟨#[97 + (sign : Int).toNat]⟩ := ⟨_, rfl⟩
    have A3 : Abc 1 l2 := hl2 ▸ .one (by omega) (by omega)
    have at3 : atI abc.cps.toList (sign : Int) = some (97 + (sign : Int).toNat) := abc_at (by omega) (by omega)
    -- one + more * int(number > 25)
    refine ⟨.str one, rfl, .str more, rfl, .int number, rfl, number, 25, rfl, rfl, .inr ⟨_, rfl, more, _, rfl, rfl, ?_, ?_, ?_, fun r1 hr1 => ?_⟩⟩
    · split <;> decide
    · split <;> decide
    · rw [A2.1]; decide
    have k1 : ∃ k : Nat, k ≤ 1 ∧ Abc (1 * k) r1 := by
      by_cases c : (25 : Int) < number
      · rw [decide_eq_true c] at hr1
        exact ⟨1, Nat.le_refl _, A2.rep hr1⟩
      · rw [decide_eq_false c] at hr1
        exact ⟨0, Nat.zero_le _, A2.rep hr1⟩
    obtain ⟨k, hk, B1⟩ := k1
    refine ⟨one, r1, rfl, rfl, A1.le2 B1 (by omega), ?_⟩
    have E1 := A1.app B1
    -- more + one
    refine ⟨.str more, rfl, .str one, rfl, more, one, rfl, rfl, A2.le2 A1 (by decide), ?_⟩
    have E2 := A2.app A1
    -- letters[sign] * 2 + one + more
    refine ⟨.str abc, rfl, .int sign, rfl, abc, _, _, rfl, rfl, Z, at3, _, 2, rfl, rfl, by decide, by decide, (by rw [← hl2, A3.1]; decide), fun r2 hr2 => ?_⟩
    rw [← hl2] at hr2
    have C2 : Abc (1 * 2) r2 := A3.rep hr2
    refine ⟨.str one, rfl, r2, one, rfl, rfl, C2.le2 A1 (by decide), .str more, rfl, _, more, rfl, rfl, (C2.app A1).le2 A2 (by decide), ?_⟩
    have E3 := (C2.app A1).app A2
    -- one + more + letters[sign] * 2
    refine ⟨.str one, rfl, .str more, rfl, one, more, rfl, rfl, A1.le2 A2 (by decide), ?_⟩
    refine ⟨.str abc, rfl, .int sign, rfl, abc, _, _, rfl, rfl, Z, at3, _, 2, rfl, rfl, by decide, by decide, (by rw [← hl2, A3.1]; decide), fun r3 hr3 => ?_⟩
    rw [← hl2] at hr3
    have C3 : Abc (1 * 2) r3 := A3.rep hr3
    refine ⟨_, r3, rfl, rfl, (A1.app A2).le2 C3 (by decide), ?_⟩
    have E4 := (A1.app A2).app C3
    refine ⟨(by show 4 ≤ sizeLine; decide), fun l nl => ?_⟩
    -- sorts + [..]
    refine ⟨.ref l, rfl, ?_⟩
    refine ⟨.str more, rfl, .str abc, rfl, .int sign, rfl, abc, _, _, rfl, rfl, Z, at3, _, 2, rfl, rfl, by decide, by decide, (by rw [← hl2, A3.1]; decide), fun r4 hr4 => ?_⟩
    rw [← hl2] at hr4
    have C4 : Abc (1 * 2) r4 := A3.rep hr4
    refine ⟨more, r4, rfl, rfl, A2.le2 C4 (by decide), .str one, rfl, _, one, rfl, rfl, (A2.app C4).le2 A1 (by decide), ?_⟩
    have E5 := (A2.app C4).app A1
    refine ⟨.str abc, rfl, .int sign, rfl, sign, rfl, .int sign, rfl, sign, 1, rfl, rfl, _, rfl, abc, rfl, Z, .str more, rfl, _, more, rfl, rfl, ?_, ?_⟩
    · rw [abc_cut sign h2]
      exact Abc.le2 (.one (by omega) (by omega)) A2 (by decide)
    rw [abc_cut sign h2]
    have A4 : Abc 1 ⟨#[97 + sign]⟩ := .one (by omega) (by omega)
    generalize (⟨#[97 + sign]⟩ : Str) = l4 at *
    have o5 := modlt (a := (number : Int)) (b := 2) (by decide)
    refine ⟨.str one, rfl, .int number, rfl, number, 2, rfl, rfl, (by show (0 : Int) < 2; decide), 1, _, rfl, rfl, one, _, rfl, rfl, ?_, ?_, (by rw [A1.1]; decide), fun r5 hr5 => ?_⟩
    · show 0 ≤ 1 + (number : Int) % 2
      omega
    · show 1 + (number : Int) % 2 ≤ 1000
      omega
    have C5 : Abc (1 * (1 + (number : Int) % 2).toNat) r5 := A1.rep hr5
    have n5 : 1 ≤ 1 * (1 + (number : Int) % 2).toNat ∧ 1 * (1 + (number : Int) % 2).toNat ≤ 2 := by omega
    refine ⟨_, r5, rfl, rfl, (A4.app A2).le2 C5 (by omega), ?_⟩
    have E6 := (A4.app A2).app C5
    refine ⟨(by show 2 ≤ sizeLine; decide), fun m nm => ?_⟩
    have S1 := same_upd (o := .lst [.str (one ++ r1), .str (more ++ one), .str (r2 ++ one ++ more), .str (one ++ more ++ r3)]) nl
    have e1 : (upd H l (.lst [.str (one ++ r1), .str (more ++ one), .str (r2 ++ one ++ more), .str (one ++ more ++ r3)])) l = some (.lst [.str (one ++ r1), .str (more ++ one), .str (r2 ++ one ++ more), .str (one ++ more ++ r3)]) := upd_same
    generalize (upd H l (.lst [.str (one ++ r1), .str (more ++ one), .str (r2 ++ one ++ more), .str (one ++ more ++ r3)])) = H1 at *
    have S2 := same_upd (o := .lst [.str (more ++ r4 ++ one), .str (l4 ++ more ++ r5)]) nm
    have e2 : (upd H1 m (.lst [.str (more ++ r4 ++ one), .str (l4 ++ more ++ r5)])) m = some (.lst [.str (more ++ r4 ++ one), .str (l4 ++ more ++ r5)]) := upd_same
    have e1' := S2 _ _ e1
    refine ⟨l, m, _, _, rfl, rfl, e1', e2, (by show 6 ≤ sizeLine; decide), fun p np => ?_⟩
    have S := (S1.trans S2).trans (same_upd (o := .lst ([.str (one ++ r1), .str (more ++ one), .str (r2 ++ one ++ more), .str (one ++ more ++ r3)] ++ [.str (more ++ r4 ++ one), .str (l4 ++ more ++ r5)])) np)
    refine ⟨.ref p, rfl, .int style, rfl, ?_⟩
    have hst : style = 0 ∨ style = 1 ∨ style = 2 ∨ style = 3 ∨ style = 4 ∨ style = 5 := by omega
    rcases hst with rfl | rfl | rfl | rfl | rfl | rfl
    · exact ⟨p, _, 0, _, rfl, rfl, .inl (.inl upd_same), atI_nat (j := 0) rfl, q _ _ S (E1.name (by omega) (by omega))⟩
    · exact ⟨p, _, 1, _, rfl, rfl, .inl (.inl upd_same), atI_nat (j := 1) rfl, q _ _ S (E2.name (by omega) (by omega))⟩
    · exact ⟨p, _, 2, _, rfl, rfl, .inl (.inl upd_same), atI_nat (j := 2) rfl, q _ _ S (E3.name (by omega) (by omega))⟩
    · exact ⟨p, _, 3, _, rfl, rfl, .inl (.inl upd_same), atI_nat (j := 3) rfl, q _ _ S (E4.name (by omega) (by omega))⟩
    · exact ⟨p, _, 4, _, rfl, rfl, .inl (.inl upd_same), atI_nat (j := 4) rfl, q _ _ S (E5.name (by omega) (by omega))⟩
    · exact ⟨p, _, 5, _, rfl, rfl, .inl (.inl upd_same), atI_nat (j := 5) rfl, q _ _ S (E6.name (by omega) (by omega))⟩
end
end L_k03

namespace L_k03
open PySem PySem.Spec PyProof.Rows L2 Lot
abbrev sNames : Stmt := topS 30
theorem scNames : FnScope ["pot", "many", "style", "sign", "some", "few", "number"] ["pot", "many"] (defScope sNames) := ⟨rfl, rfl, rfl, by decide +kernel, rfl, by decide +kernel, by decide +kernel⟩
abbrev sMixed : Stmt := topS 31
theorem scMixed : FnScope ["pot", "things", "left", "k"] ["pot", "things"] (defScope sMixed) := ⟨rfl, rfl, rfl, by decide +kernel, rfl, by decide +kernel, by decide +kernel⟩
section
variable {P : Program} {w : World} {K : PySem.W.Frag} {mg : Str → Option Value} {base : Heap}
def spNames : Sp := fun vs H Q _ => ∃ (p : Addr) (many : Nat) (N : Nat), vs = [.ref p, .int many] ∧ 1 ≤ many ∧ many ≤ 36 ∧ PotAt H p N ∧ N ≤ 1000 ∧
  ∀ H' l (zs : List Str), But p H H' → PotAt H' p (N + 5) → H l = none → H' l = some (.lst (zs.map V.str)) → zs.length = many → (∀ z ∈ zs, NameOk z) → Q (.ref l) H'
theorem ok_names {f fD fN : Addr} {fd fdD fdN : FuncData} (F : Fun K "_law_names" "_law_names" sNames f fd) (D__law_dip : Def P w K mg base 1 "_law_dip" ["pot", "many"] spDip fD fdD) (D__law_name : Def P w K mg base 1 "_law_name" ["style", "sign", "number"] spName fN fdN)
    (m_max : mg "max" = none) (m_range : mg "range" = none) : FnOk P w K mg base CX0 2 f fd ["pot", "many"] spNames := by
  refine F.ok scNames (fun vs H Q E h => ?_) (fun cdv A outer s H vs Q E hr h => ?_)
  · obtain ⟨p, most, N, rfl, _⟩ := h
    rfl
  · obtain ⟨p, many, N, rfl, hm1, hm2, hP, hN, q⟩ := h
    refine ⟨_, (pss_cons (ps_set (i := 2) scNames.nd rfl (by first | exact .inl rfl | exact .inr rfl) (pe_call D__law_dip.ok (hr.mono (by decide)) (by rfl) D__law_dip.g D__law_dip.kp D__law_dip.b .nil pass0 (pa_cons (pv 0) (pa_cons pe_int pa_nil))))
      (pss_cons (ps_set (i := 3) scNames.nd rfl (by first | exact .inl rfl | exact .inr rfl) (pe_call D__law_dip.ok (hr.mono (by decide)) (by rfl) D__law_dip.g D__law_dip.kp D__law_dip.b .nil pass0 (pa_cons (pv 0) (pa_cons pe_int pa_nil))))
      (pss_cons (ps_set (i := 4) scNames.nd rfl (by first | exact .inl rfl | exact .inr rfl) (pe_callB (call_max2 rfl) (by rfl) m_max (by decide +kernel) (pa_cons pe_int (pa_cons (pe_op op_sub (pe_op op_sub (pv 1) pe_int) (pe_call D__law_dip.ok (hr.mono (by decide)) (by rfl) D__law_dip.g D__law_dip.kp D__law_dip.b .nil pass0 (pa_cons (pv 0) (pa_cons pe_int pa_nil)))) pa_nil))))
      (pss_cons (ps_set (i := 5) scNames.nd rfl (by first | exact .inl rfl | exact .inr rfl) (pe_ix ix_list (pe_lst (pa_cons pe_int (pa_cons pe_int (pa_cons (pe_op op_add pe_int (pe_call D__law_dip.ok (hr.mono (by decide)) (by rfl) D__law_dip.g D__law_dip.kp D__law_dip.b .nil pass0 (pa_cons (pv 0) (pa_cons pe_int pa_nil)))) (pa_cons (pv 4) pa_nil))))) (pe_call D__law_dip.ok (hr.mono (by decide)) (by rfl) D__law_dip.g D__law_dip.kp D__law_dip.b .nil pass0 (pa_cons (pv 0) (pa_cons pe_int pa_nil))) (fun _ _ => rfl)))
      (pss_one (ps_ret (pe_lc (own := [("number", 6)]) (g := gName 6) (tt := tYes) rfl scNames.nd (pi_range1 (by rfl) m_range (pa_cons (pv 1) pa_nil)) (blkOk_by (own := [("number", 6)]) (N := ["pot", "many", "style", "sign", "some", "few", "number"]) (sc := defScope sNames) (by decide +kernel)) (fun _ _ _ _ _ => (pg_name (i := 6) scNames.nd rfl (by first | exact .inl rfl | exact .inr rfl))) (fun _ _ _ _ _ => pts_nil) (fun _ _ _ _ _ => by exact (pe_call D__law_name.ok (hr.mono (by decide)) (by rfl) D__law_name.g D__law_name.kp D__law_name.b .nil pass0 (pa_cons (pv 2) (pa_cons (pv 3) (pa_cons (pe_op op_mod (pv 6) (pv 5)) pa_nil)))))))))))), ?_⟩
    refine ⟨.ref p, rfl, p, 6, N, rfl, by decide, by decide, hP, by omega, fun style ws1 hst hw1 => ?_⟩
    have P1 : PotAt (upd H p (.lst ws1)) p (N + 1) := PotAt.upd hw1
    have B1 : But p H (upd H p (.lst ws1)) := But.upd
    generalize (upd H p (.lst ws1)) = H1 at *
    refine ⟨.ref p, rfl, p, 26, N + 1, rfl, by decide, by decide, P1, by omega, fun sign ws2 hsg hw2 => ?_⟩
    have P2 : PotAt (upd H1 p (.lst ws2)) p (N + 2) := PotAt.upd hw2
    have B2 : But p H (upd H1 p (.lst ws2)) := B1.trans But.upd
    generalize (upd H1 p (.lst ws2)) = H2 at *
    refine ⟨.int many, rfl, many, 1, rfl, rfl, .ref p, rfl, p, 3, N + 2, rfl, by decide, by decide, P2, by omega, fun r3 ws3 hr3 hw3 => ?_⟩
    have P3 : PotAt (upd H2 p (.lst ws3)) p (N + 3) := PotAt.upd hw3
    have B3 : But p H (upd H2 p (.lst ws3)) := B2.trans But.upd
    generalize (upd H2 p (.lst ws3)) = H3 at *
    refine ⟨(many : Int) - 1, r3, rfl, rfl, 1, (many : Int) - 1 - r3, rfl, ?_⟩
    obtain ⟨some', hsome⟩ : ∃ x : Int, x = if (many : Int) - 1 - r3 > 1 then (many : Int) - 1 - r3 else 1 := ⟨_, rfl⟩
    have s1 : 1 ≤ some' ∧ some' ≤ 36 := by
      rw [hsome]
      split <;> omega
    refine ⟨.ref p, rfl, p, 4, N + 3, rfl, by decide, by decide, P3, by omega, fun r4 ws4 hr4 hw4 => ?_⟩
    have P4 : PotAt (upd H3 p (.lst ws4)) p (N + 4) := PotAt.upd hw4
    have B4 : But p H (upd H3 p (.lst ws4)) := B3.trans But.upd
    generalize (upd H3 p (.lst ws4)) = H4 at *
    refine ⟨1, r4, rfl, rfl, .int some', congrArg (fun i => some (some (V.int i))) hsome.symm, (by show 4 ≤ sizeLine; decide), fun l nl => ?_⟩
    have P5 : PotAt (upd H4 l (.lst [.int 36, .int 36, .int (1 + (r4 : Int)), .int some'])) p (N + 4) := P4.same (same_upd nl)
    have B5 : But p H (upd H4 l (.lst [.int 36, .int 36, .int (1 + (r4 : Int)), .int some'])) := B4.trans (But.of_same (same_upd nl))
    have lp : l ≠ p := P4.ne nl
    have el : (upd H4 l (.lst [.int 36, .int 36, .int (1 + (r4 : Int)), .int some'])) l = some (.lst [.int 36, .int 36, .int (1 + (r4 : Int)), .int some']) := upd_same
    generalize (upd H4 l (.lst [.int 36, .int 36, .int (1 + (r4 : Int)), .int some'])) = H5 at *
    refine ⟨.ref p, rfl, p, 4, N + 4, rfl, by decide, by decide, P5, by omega, fun r5 ws5 hr5 hw5 => ?_⟩
    have P6 : PotAt (upd H5 p (.lst ws5)) p (N + 5) := PotAt.upd hw5
    have B6 : But p H (upd H5 p (.lst ws5)) := B5.trans But.upd
    have el6 : (upd H5 p (.lst ws5)) l = some (.lst [.int 36, .int 36, .int (1 + (r4 : Int)), .int some']) := by rw [upd_ne lp]; exact el
    generalize (upd H5 p (.lst ws5)) = H6 at *
    obtain ⟨few, hat, f1, f2⟩ : ∃ few : Int, atI ([.int 36, .int 36, .int (1 + (r4 : Int)), .int some'] : List V) (r5 : Int) = some (.int few) ∧ 1 ≤ few ∧ few ≤ 36 := by
      have hr5' : r5 = 0 ∨ r5 = 1 ∨ r5 = 2 ∨ r5 = 3 := by omega
      rcases hr5' with rfl | rfl | rfl | rfl
      · exact ⟨36, atI_nat (j := 0) rfl, by decide, by decide⟩
      · exact ⟨36, atI_nat (j := 1) rfl, by decide, by decide⟩
      · exact ⟨1 + (r4 : Int), atI_nat (j := 2) rfl, by omega, by omega⟩
      · exact ⟨some', atI_nat (j := 3) rfl, s1.1, s1.2⟩
    refine ⟨l, _, (r5 : Int), .int few, rfl, rfl, .inl (.inl el6), hat, ?_⟩
    -- the names
    refine ⟨.int many, rfl, many, rfl, by omega, by omega, fun D nD => ?_⟩
    refine lc_range (lo := 0) (n := many) (fun i H' => ∃ zs : List Str, zs.length = i ∧ (∀ z ∈ zs, NameOk z) ∧ H' D = some (.lst (zs.map V.str)) ∧ Same H6 H') ⟨[], rfl, (fun z hz => by cases hz), upd_same, same_upd nD⟩ (fun i H' hi hI => ?_) (fun H' hI => ?_)
    · obtain ⟨zs, z1, z2, z3, z4⟩ := hI
      refine ⟨rfl, ?_⟩
      have hmod := modlt (a := (0 : Int) + i) (b := few) (by omega)
      have hn : (0 + (i : Int)) % few = (((0 + (i : Int)) % few).toNat : Int) := (Int.toNat_of_nonneg hmod.1).symm
      refine ⟨.int style, rfl, .int sign, rfl, .int (0 + i), rfl, .int few, rfl, 0 + i, few, rfl, rfl, by omega, style, sign, ((0 + (i : Int)) % few).toNat, congrArg (fun z => [V.int style, V.int sign, V.int z]) hn, by omega, by omega, by omega, fun z H7 s7 hz => ?_⟩
      refine ⟨zs.map V.str, s7 _ _ z3, ?_, zs ++ [z], ?_, ?_, ?_, ?_⟩
      · rw [List.length_map]; exact small1000 (by omega)
      · rw [List.length_append, z1]; rfl
      · intro y hy
        rcases List.mem_append.mp hy with hy | hy
        · exact z2 y hy
        · rw [List.mem_singleton.mp hy]; exact hz
      · rw [upd_same, List.map_append]; rfl
      · exact same_new (z4.trans s7) nD
    · obtain ⟨zs, z1, z2, z3, z4⟩ := hI
      have Dp : D ≠ p := P6.ne nD
      exact q _ _ zs (B6.trans (But.of_same z4)) (P6.same z4) (B6.free Dp nD) z3 z1 z2
/-- _law_mixed: some arrangement of the list -/
def spMixed (K : PySem.W.Frag) : Sp := fun vs H Q _ => ∃ (p a : Addr) (xs : List V) (N : Nat), vs = [.ref p, .ref a] ∧ (SqL K H a xs ∨ SqT K H a xs) ∧ xs.length ≤ 500 ∧ PotAt H p N ∧ N ≤ 1000 ∧
  ∀ H' l ys, But p H H' → PotAt H' p (N + xs.length) → H l = none → H' l = some (.lst ys) → List.Perm ys xs → Q (.ref l) H'
theorem ok_mixed {f fD : Addr} {fd fdD : FuncData} (F : Fun K "_law_mixed" "_law_mixed" sMixed f fd) (D__law_dip : Def P w K mg base 1 "_law_dip" ["pot", "many"] spDip fD fdD)
    (m_list : mg "list" = none) (m_len : mg "len" = none) (m_range : mg "range" = none) : FnOk P w K mg base CX0 2 f fd ["pot", "things"] (spMixed K) := by
  refine F.ok scMixed (fun vs H Q E h => ?_) (fun cdv A outer s H vs Q E hr h => ?_)
  · obtain ⟨p, a, xs, N, rfl, _⟩ := h
    rfl
  · obtain ⟨p, a, xs, N, rfl, hS, hl, hP, hN, q⟩ := h
    refine ⟨_, (pss_cons (ps_set (i := 2) scMixed.nd rfl (by first | exact .inl rfl | exact .inr rfl) (pe_callTy call_list_of (by rfl) m_list (by decide +kernel) (pa_cons (pv 1) pa_nil)))
      (pss_one (ps_ret (pe_lc (own := [("k", 3)]) (g := gName 3) (tt := tYes) rfl scMixed.nd (pi_range1 (by rfl) m_range (pa_cons (pe_callB call_len_seq (by rfl) m_len PySem.boot_len (pa_cons (pv 2) pa_nil)) pa_nil)) (blkOk_by (own := [("k", 3)]) (N := ["pot", "things", "left", "k"]) (sc := defScope sMixed) (by decide +kernel)) (fun _ _ _ _ _ => (pg_name (i := 3) scMixed.nd rfl (by first | exact .inl rfl | exact .inr rfl))) (fun _ _ _ _ _ => pts_nil) (fun _ _ _ _ _ => by exact (pe_bmK (K := K) rfl (pe_bm PySem.F.plainAttrs_list PySem.F.slot_list_pop PySem.F.type_list_pop mt_popAt (pv 2) (by exact (pa_cons (pe_call D__law_dip.ok (hr.mono (by decide)) (by rfl) D__law_dip.g D__law_dip.kp D__law_dip.b .nil pass0 (pa_cons (pv 0) (pa_cons (pe_callB (call_len_seqK (K := K) rfl) (by rfl) m_len PySem.boot_len (pa_cons (pv 2) pa_nil)) pa_nil))) pa_nil))))))))), ?_⟩
    refine ⟨.ref a, rfl, a, xs, rfl, hS, fun l nl => ?_⟩
    have lp : l ≠ p := hP.ne nl
    have P1 := hP.same (same_upd (o := .lst xs) nl)
    have S1 := same_upd (o := .lst xs) nl
    have el : (upd H l (.lst xs)) l = some (.lst xs) := upd_same
    generalize (upd H l (.lst xs)) = H1 at *
    refine ⟨.ref l, rfl, l, xs, rfl, .inl (.inl (.inl el)), _, rfl, by omega, by omega, fun D nD => ?_⟩
    have Dp : D ≠ p := P1.ne nD
    have Dl : D ≠ l := fun z => by rw [z, el] at nD; cases nD
    refine lc_range (lo := 0) (n := (xs.length : Int).toNat) (fun i H' => ∃ acc left : List V, H' D = some (.lst acc) ∧ H' l = some (.lst left) ∧ acc.length = i ∧ acc.length + left.length = xs.length ∧ List.Perm (acc ++ left) xs ∧ PotAt H' p (N + i) ∧ (∀ b o, b ≠ p → b ≠ l → H1 b = some o → H' b = some o))
      ⟨[], xs, upd_same, by rw [upd_ne (Ne.symm Dl)]; exact el, rfl, by simp, List.Perm.refl _, P1.updne (Ne.symm Dp), fun b o h1 h2 h3 => by rw [upd_ne (ne_of_none h3 nD)]; exact h3⟩ (fun i H' hi hI => ?_) (fun H' hI => ?_)
    · obtain ⟨acc, left, e1, e2, e3, e4, e5, e6, e7⟩ := hI
      have hi' : i < xs.length := by omega
      have hleft : 0 < left.length := by omega
      refine ⟨rfl, ?_⟩
      refine ⟨.ref l, rfl, .inl ⟨rfl, _, .inl (.inl e2)⟩, .ref p, rfl, .ref l, rfl, l, left, rfl, .inl (.inl (.inl e2)), p, left.length, N + i, rfl, by omega, by omega, e6, by omega, fun r ws hr2 hw => ?_⟩
      have hrl : r < left.length := by omega
      have e2' : (upd H' p (.lst ws)) l = some (.lst left) := by rw [upd_ne lp]; exact e2
      refine ⟨l, left, r, r, left[r], rfl, rfl, e2', by omega, by omega, seqIx hrl, List.getElem?_eq_getElem hrl, ?_⟩
      · have e1' : (upd (upd H' p (.lst ws)) l (.lst (left.eraseIdx r))) D = some (.lst acc) := by
          rw [upd_ne Dl, upd_ne Dp]; exact e1
        refine ⟨acc, e1', small1000 (by omega), acc ++ [left[r]], left.eraseIdx r, upd_same, ?_, ?_, ?_, ?_, ?_, ?_⟩
        · rw [upd_ne (Ne.symm Dl), upd_same]
        · rw [List.length_append, e3]; rfl
        · rw [List.length_append, List.length_eraseIdx_of_lt hrl]
          simp only [List.length_singleton]
          omega
        · rw [List.append_assoc]
          exact (List.Perm.append_left acc (perm_erase (List.getElem?_eq_getElem hrl))).trans e5
        · refine ⟨ws, ?_, hw⟩
          rw [upd_ne (Ne.symm Dp), upd_ne (Ne.symm lp), upd_same]
        · intro b o h1 h2 h3
          rw [upd_ne (ne_of_none h3 nD), upd_ne h2, upd_ne h1]
          exact e7 b o h1 h2 h3
    · obtain ⟨acc, left, e1, e2, e3, e4, e5, e6, e7⟩ := hI
      have hn : left = [] := List.eq_nil_of_length_eq_zero (by omega)
      subst hn
      rw [List.append_nil] at e5
      refine q _ _ acc (fun b o hb e => e7 b o hb (ne_of_none e nl) (S1 _ _ e)) (e6.mono (by omega)) (S1.free nD) e1 e5
end
end L_k03

namespace L_k03
open PySem PySem.Spec PyProof.Rows L2 Lot
abbrev sStanding : Stmt := topS 32
theorem scStanding : FnScope ["pot", "many", "names", "name"] ["pot", "many"] (defScope sStanding) := ⟨rfl, rfl, rfl, by decide +kernel, rfl, by decide +kernel, by decide +kernel⟩
section
variable {P : Program} {w : World} {K : PySem.W.Frag} {mg : Str → Option Value} {base : Heap}
def spStanding : Sp := fun vs H Q _ => ∃ (p : Addr) (many : Nat) (N : Nat), vs = [.ref p, .int many] ∧ 1 ≤ many ∧ many ≤ 36 ∧ PotAt H p N ∧ N ≤ 900 ∧
  ∀ H' t (ths : List (Str × Nat)), But p H H' → PotAt H' p (N + 5 + 2 * many) → H t = none → StandAt H' t ths → ths.length = many → (∀ th ∈ ths, ThOk th) → Q (.ref t) H'
theorem strs_of : ∀ {ys : List V}, (∀ y ∈ ys, ∃ z : Str, y = .str z ∧ NameOk z) → ∃ ws : List Str, ys = ws.map V.str ∧ ∀ z ∈ ws, NameOk z
  | [], _ => ⟨[], rfl, fun z hz => nomatch hz⟩
  | y :: r, h => by
    obtain ⟨ws, e, k⟩ := strs_of (ys := r) fun x hx => h x (List.mem_cons_of_mem _ hx)
    obtain ⟨z, rfl, hz⟩ := h y List.mem_cons_self
    refine ⟨z :: ws, by rw [e]; rfl, fun x hx => ?_⟩
    rcases List.mem_cons.mp hx with rfl | hx
    · exact hz
    · exact k x hx
theorem ok_standing {f fD fN fM : Addr} {fd fdD fdN fdM : FuncData} (F : Fun K "_law_standing" "_law_standing" sStanding f fd) (D__law_dip : Def P w K mg base 1 "_law_dip" ["pot", "many"] spDip fD fdD) (D__law_names : Def P w K mg base 2 "_law_names" ["pot", "many"] spNames fN fdN)
    (D__law_mixed : Def P w K mg base 2 "_law_mixed" ["pot", "things"] (spMixed K) fM fdM) (m_tuple : mg "tuple" = none) : FnOk P w K mg base CX0 3 f fd ["pot", "many"] spStanding := by
  refine F.ok scStanding (fun vs H Q E h => ?_) (fun cdv A outer s H vs Q E hr h => ?_)
  · obtain ⟨p, most, N, rfl, _⟩ := h
    rfl
  · obtain ⟨p, many, N, rfl, hm1, hm2, hP, hN, q⟩ := h
    refine ⟨_, (pss_cons (ps_set (i := 2) scStanding.nd rfl (by first | exact .inl rfl | exact .inr rfl) (pe_call D__law_mixed.ok (hr.mono (by decide)) (by rfl) D__law_mixed.g D__law_mixed.kp D__law_mixed.b .nil pass0 (pa_cons (pv 0) (pa_cons (pe_call D__law_names.ok (hr.mono (by decide)) (by rfl) D__law_names.g D__law_names.kp D__law_names.b .nil pass0 (pa_cons (pv 0) (pa_cons (pv 1) pa_nil))) pa_nil))))
      (pss_one (ps_ret (pe_callTy call_tuple_of (by rfl) m_tuple (by decide +kernel) (pa_cons (pe_lc (own := [("name", 3)]) (g := gName 3) (tt := tYes) rfl scStanding.nd (pi_list (pv 2)) (blkOk_by (own := [("name", 3)]) (N := ["pot", "many", "names", "name"]) (sc := defScope sStanding) (by decide +kernel)) (fun _ _ _ _ _ => (pg_name (i := 3) scStanding.nd rfl (by first | exact .inl rfl | exact .inr rfl))) (fun _ _ _ _ _ => pts_nil) (fun _ _ _ _ _ => by exact (pe_tup (pa_cons (pv 3) (pa_cons (pe_call D__law_dip.ok (hr.mono (by decide)) (by rfl) D__law_dip.g D__law_dip.kp D__law_dip.b .nil pass0 (pa_cons (pv 0) (pa_cons pe_int pa_nil))) pa_nil))))) pa_nil))))), ?_⟩
    refine ⟨.ref p, rfl, .ref p, rfl, .int many, rfl, p, many, N, rfl, hm1, hm2, hP, by omega, fun H1 l zs B1 P1 nl el hlen hok => ?_⟩
    have hzl : (zs.map V.str).length = many := by rw [List.length_map, hlen]
    refine ⟨p, l, zs.map V.str, N + 5, rfl, .inl (.inl (.inl el)), by omega, P1, by omega, fun H2 m ys B2 P2 nm em perm => ?_⟩
    have B3 := B1.trans B2
    rw [hzl] at P2
    obtain ⟨ws, rfl, hws⟩ := strs_of (ys := ys) fun y hy => by
      obtain ⟨z, hz, rfl⟩ := List.mem_map.mp (perm.subset hy)
      exact ⟨z, rfl, hok z hz⟩
    have hwl : ws.length = many := by
      have := perm.length_eq
      rw [List.length_map, hzl] at this
      exact this
    refine ⟨.ref m, rfl, m, rfl, ⟨_, .inl (.inl em)⟩, fun D nD => ?_⟩
    have Dp : D ≠ p := P2.ne nD
    have mp : m ≠ p := P1.ne nm
    refine lc_list (K := K) (a := m) (xs := ws.map V.str) (fun i H' => ∃ (as : List Addr) (ths : List (Str × Nat)), H' D = some (.lst (as.map V.ref)) ∧ Things H' as ths ∧ ths.length = i ∧ (∀ th ∈ ths, ThOk th) ∧ But p H2 H' ∧ PotAt H' p (N + 5 + many + i))
      ⟨[], [], upd_same, trivial, rfl, (fun th hth => nomatch hth), But.of_same (same_upd nD), P2.updne (Ne.symm Dp)⟩ (fun i H' hi hI => ?_) (fun i y H' hy hI => ?_) (fun H' hI => ?_)
    · obtain ⟨as, ths, e1, e2, e3, e4, e5, e6⟩ := hI
      exact .inl (.inl (e5 _ _ mp em))
    · obtain ⟨as, ths, e1, e2, e3, e4, e5, e6⟩ := hI
      obtain ⟨z, hz, rfl⟩ : ∃ z, ws[i]? = some z ∧ y = V.str z := by
        rw [List.getElem?_map] at hy
        cases e : ws[i]? with
        | none => rw [e] at hy; cases hy
        | some z => rw [e] at hy; exact ⟨z, rfl, (Option.some.inj hy).symm⟩
      have hi : i < ws.length := (List.getElem?_eq_some_iff.mp hz).1
      have hzok := hws z (List.mem_of_getElem? hz)
      refine ⟨rfl, ?_⟩
      refine ⟨.str z, rfl, .ref p, rfl, p, 2, N + 5 + many + i, rfl, by decide, by decide, e6, by omega, fun r ws2 hr2 hw2 => ?_⟩
      have e1a : (upd H' p (.lst ws2)) D = some (.lst (as.map V.ref)) := by rw [upd_ne Dp]; exact e1
      have e2a : Things (upd H' p (.lst ws2)) as ths := e2.but But.upd e6.is
      have e5a : But p H2 (upd H' p (.lst ws2)) := e5.trans But.upd
      have e6a : PotAt (upd H' p (.lst ws2)) p (N + 5 + many + i + 1) := PotAt.upd hw2
      generalize (upd H' p (.lst ws2)) = H3 at *
      refine ⟨(by show 2 ≤ sizeLine; decide), fun t nt => ?_⟩
      have Dt : D ≠ t := fun z => by rw [← z, e1a] at nt; cases nt
      have e1b : (upd H3 t (.tup [.str z, .int r])) D = some (.lst (as.map V.ref)) := by rw [upd_ne Dt]; exact e1a
      have e2b : Things (upd H3 t (.tup [.str z, .int r])) (as ++ [t]) (ths ++ [(z, r)]) := Things.snoc (u := (z, r)) upd_same (e2a.same (same_upd nt))
      have e5b : But p H2 (upd H3 t (.tup [.str z, .int r])) := e5a.trans (But.of_same (same_upd nt))
      have e6b : PotAt (upd H3 t (.tup [.str z, .int r])) p (N + 5 + many + i + 1) := e6a.same (same_upd nt)
      have hal := e2a.length
      refine ⟨as.map V.ref, e1b, ?_, as ++ [t], ths ++ [(z, r)], ?_, ?_, ?_, ?_, ?_, ?_⟩
      · rw [List.length_map]; exact small1000 (by omega)
      · rw [upd_same, List.map_append]; rfl
      · exact e2b.but But.upd ⟨_, e1b⟩
      · rw [List.length_append, e3]; rfl
      · intro th hth
        rcases List.mem_append.mp hth with hth | hth
        · exact e4 th hth
        · rw [List.mem_singleton.mp hth]
          exact ⟨hzok, by show r < 2; omega⟩
      · exact e5b.new nD
      · exact e6b.updne (Ne.symm Dp)
    · obtain ⟨as, ths, e1, e2, e3, e4, e5, e6⟩ := hI
      rw [List.length_map, hwl] at e3 e6
      refine ⟨D, _, rfl, .inl ⟨.inl (.inl e1), fun t nt => ?_⟩⟩
      have tp : t ≠ p := e6.ne nt
      have B4 := B3.trans e5
      refine q _ t ths (B4.trans (But.of_same (same_upd nt))) ((e6.same (same_upd nt)).mono (by omega)) (B4.free tp nt) ⟨as, upd_same, e2.same (same_upd nt)⟩ e3 e4
end
end L_k03

namespace L_k03
open PySem PySem.Spec PyProof.Rows L2 Lot
abbrev sHighAndWide : Stmt := topS 1
theorem scHighAndWide : FnScope ["board"] ["board"] (defScope sHighAndWide) := ⟨rfl, rfl, rfl, by decide +kernel, rfl, by decide +kernel, by decide +kernel⟩
abbrev sIsName : Stmt := topS 21
theorem scIsName : FnScope ["word", "sign"] ["word"] (defScope sIsName) := ⟨rfl, rfl, rfl, by decide +kernel, rfl, by decide +kernel, by decide +kernel⟩
abbrev sThingOf : Stmt := topS 23
theorem scThingOf : FnScope ["word"] ["word"] (defScope sThingOf) := ⟨rfl, rfl, rfl, by decide +kernel, rfl, by decide +kernel, by decide +kernel⟩
abbrev sIsDue : Stmt := topS 22
theorem scIsDue : FnScope ["word", "at", "wide", "name", "_"] ["word", "at", "wide"] (defScope sIsDue) := ⟨rfl, rfl, rfl, by decide +kernel, rfl, by decide +kernel, by decide +kernel⟩
section
variable {P : Program} {w : World} {K : PySem.W.Frag} {mg : Str → Option Value} {base : Heap}
def spHigh : Sp := fun vs H Q _ => ∃ (b : Addr) (bd : Bd), vs = [.ref b] ∧ H b = some (.tup bd.vals) ∧ ∀ t, H t = none → Q (.ref t) (upd H t (.tup [.int bd.high, .int bd.wide]))
theorem ok_high {f : Addr} {fd : FuncData} (F : Fun K "high_and_wide" "high_and_wide" sHighAndWide f fd) : FnOk P w K mg base CX0 1 f fd ["board"] spHigh := by
  refine F.ok scHighAndWide (fun vs H Q E h => ?_) (fun cdv A outer s H vs Q E hr h => ?_)
  · obtain ⟨b, bd, rfl, _⟩ := h
    rfl
  · obtain ⟨b, bd, rfl, hB', q⟩ := h
    have hB : SqT K H b bd.vals := .inl (.inl hB')
    refine ⟨_, (pss_cons (ps_if (pt_cmpR op_eq (pe_ix ix_tup (pv 0) pe_int (fun _ _ => rfl)) pe_str (nomark _)) (pss_one (ps_ret (pe_tup (pa_cons (pe_ix ix_tup (pv 0) pe_int (fun _ _ => rfl)) (pa_cons (pe_ix ix_tup (pv 0) pe_int (fun _ _ => rfl)) pa_nil))))) pss_nil)
      (pss_one (ps_ret (pe_tup (pa_cons pe_int (pa_cons (pe_ix ix_tup (pv 0) pe_int (fun _ _ => rfl)) pa_nil)))))), ?_⟩
    cases bd with
    | row n =>
      refine ⟨.ref b, rfl, b, _, 0, _, rfl, rfl, hB, atI_nat (j := 0) rfl, rfl, _, rfl, iteN (by decide +kernel) ?_⟩
      exact ⟨.ref b, rfl, b, _, 1, _, rfl, rfl, hB, atI_nat (j := 1) rfl, (by show 2 ≤ sizeLine; decide), fun t nt => q t nt⟩
    | ring n =>
      refine ⟨.ref b, rfl, b, _, 0, _, rfl, rfl, hB, atI_nat (j := 0) rfl, rfl, _, rfl, iteN (by decide +kernel) ?_⟩
      exact ⟨.ref b, rfl, b, _, 1, _, rfl, rfl, hB, atI_nat (j := 1) rfl, (by show 2 ≤ sizeLine; decide), fun t nt => q t nt⟩
    | floor h w =>
      refine ⟨.ref b, rfl, b, _, 0, _, rfl, rfl, hB, atI_nat (j := 0) rfl, rfl, _, rfl, iteP (by decide +kernel) ?_⟩
      exact ⟨.ref b, rfl, b, _, 1, _, rfl, rfl, hB, atI_nat (j := 1) rfl, .ref b, rfl, b, _, 2, _, rfl, rfl, hB, atI_nat (j := 2) rfl, (by show 2 ≤ sizeLine; decide), fun t nt => q t nt⟩
/-- is_name(word) -/
def spIsName : Sp := fun vs H Q _ => ∃ z : Str, vs = [.str z] ∧ z.length ≤ sizeLine ∧ ∀ H', Same H H' → Q (.bl (isName z)) H'
theorem ok_isName {f : Addr} {fd : FuncData} {t4 tl : Tok} (F : Fun K "is_name" "is_name" sIsName f fd) (m_len : mg "len" = none) (m_all : mg "all" = none) (g_MOST_LETTERS : mg "MOST_LETTERS" = some (.int 4 t4)) (g_LETTERS : mg "LETTERS" = some (.str abc tl)) :
    FnOk P w K mg base CX0 1 f fd ["word"] spIsName := by
  refine F.ok scIsName (fun vs H Q E h => ?_) (fun cdv A outer s H vs Q E hr h => ?_)
  · obtain ⟨z, rfl, _⟩ := h
    rfl
  · obtain ⟨z, rfl, hz, q⟩ := h
    refine ⟨_, (pss_cons (ps_if (pt_not (pt_chain op_le op_le pe_int (pe_callB call_len_str (by rfl) m_len PySem.boot_len (pa_cons (pv 0) pa_nil)) (pe_glob (v := .int 4) (by rfl) g_MOST_LETTERS ⟨_, rfl⟩))) (pss_one (ps_ret pe_bl)) pss_nil)
      (pss_one (ps_ret (pe_callB (cr_all rfl) (by rfl) m_all (by decide +kernel) (pa_cons (pe_lc (own := [("sign", 1)]) (g := gName 1) (tt := tYes) rfl scIsName.nd (pi_str (pv 0)) (blkOk_by (own := [("sign", 1)]) (N := ["word", "sign"]) (sc := defScope sIsName) (by decide +kernel)) (fun _ _ _ _ _ => (pg_name (i := 1) scIsName.nd rfl (by first | exact .inl rfl | exact .inr rfl))) (fun _ _ _ _ _ => pts_nil) (fun _ _ _ _ _ => by exact (pe_cmpR op_in_sign (pv 1) (pe_glob (v := .str abc) (by rfl) g_LETTERS ⟨_, rfl⟩) (by rfl)))) pa_nil))))), ?_⟩
    have no : ¬ (1 ≤ z.length ∧ z.length ≤ 4) → isName z = false := fun c => by
      unfold isName
      rw [Bool.and_eq_false_iff, Bool.and_eq_false_iff]
      by_cases c1 : 1 ≤ z.length
      · exact .inl (.inr (decide_eq_false fun c2 => c ⟨c1, c2⟩))
      · exact .inl (.inl (decide_eq_false c1))
    refine ⟨.str z, rfl, z, rfl, hz, 1, z.length, rfl, rfl, _, rfl, ite2 (fun e => ?_) (fun e => ?_)⟩
    · have h1 : 1 ≤ z.length := by have := of_decide_eq_true e; omega
      refine ⟨z.length, 4, rfl, rfl, _, rfl, ?_⟩
      by_cases c2 : z.length ≤ 4
      · refine iteN (by rw [decide_eq_true (show (z.length : Int) ≤ 4 by omega)]; rfl) ?_
        refine ⟨.str z, rfl, z, rfl, fun D nD => ?_⟩
        refine lc_it walk_str (fun i H' => H' D = some (.lst (((z.cps.toList.take i).map fun c => decide (c ∈ abc.cps.toList)).map V.bl)) ∧ Same H H') ⟨upd_same, same_upd nD⟩ (fun _ _ _ _ => trivial) (fun i x H1 H2 hi hI hY => ?_) (fun H' hI => ?_)
        · obtain ⟨e1, e2⟩ := hI
          obtain ⟨rfl, c, hc, rfl⟩ := hY
          have hc' : z.cps.toList[i]? = some c := by rw [Array.getElem?_toList]; exact hc
          refine ⟨rfl, .str ⟨#[c]⟩, rfl, c, abc, rfl, rfl, _, e1, ?_, ?_, same_new e2 nD⟩
          · rw [List.length_map, List.length_map, List.length_take]
            have : z.cps.toList.length = z.length := by simp [Str.length]
            exact small1000 (by omega)
          · rw [upd_same, List.take_add_one, hc', List.map_append, List.map_append]
            rfl
        · obtain ⟨e1, e2⟩ := hI
          have ea : z.cps.toList.take z.cps.size = z.cps.toList := List.take_of_length_le (by rw [Array.length_toList]; exact Nat.le_refl _)
          rw [ea] at e1
          refine ⟨D, _, rfl, .inl (.inl e1), ?_⟩
          have eq : isName z = ((z.cps.toList.map fun c => decide (c ∈ abc.cps.toList)).all id) := by
            unfold isName
            rw [decide_eq_true h1, decide_eq_true c2, List.all_map]
            rfl
          rw [← eq]
          exact q _ e2
      · refine iteP (by rw [decide_eq_false (show ¬ (z.length : Int) ≤ 4 by omega)]; rfl) ?_
        have := q H (Same.refl H)
        rw [no fun c => c2 c.2] at this
        exact this
    · refine ⟨false, rfl, iteP rfl ?_⟩
      have := q H (Same.refl H)
      rw [no fun c => e (decide_eq_true (by omega))] at this
      exact this
/-- _thing_of(word) -/
def spThingOf : Sp := fun vs H Q _ => ∃ z : Str, vs = [.str z] ∧ z.length ≤ sizeLine ∧ ∀ t, H t = none → Q (.ref t) (upd H t (.tup (thing (thingOf z))))
theorem ok_thingOf {f : Addr} {fd : FuncData} (F : Fun K "_thing_of" "_thing_of" sThingOf f fd) : FnOk P w K mg base CX0 1 f fd ["word"] spThingOf := by
  refine F.ok scThingOf (fun vs H Q E h => ?_) (fun cdv A outer s H vs Q E hr h => ?_)
  · obtain ⟨z, rfl, _⟩ := h
    rfl
  · obtain ⟨z, rfl, hz, q⟩ := h
    refine ⟨_, (pss_cons (ps_if (pt_val (pe_m1 PySem.F.slot_str_startswith PySem.F.type_str_startswith mt_startswith (pv 0) pe_str)) (pss_one (ps_ret (pe_tup (pa_cons (pe_slice sl_str (pv 0) (po_some pe_int) po_none) (pa_cons pe_int pa_nil))))) pss_nil)
      (pss_one (ps_ret (pe_tup (pa_cons (pv 0) (pa_cons pe_int pa_nil)))))), ?_⟩
    refine ⟨.str z, rfl, ⟨_, rfl⟩, z, minus, rfl, rfl, _, rfl, ?_⟩
    unfold thingOf at q
    by_cases c : Txt.startswith z minus = true
    · rw [if_pos c] at q
      refine iteP c ⟨.str z, rfl, 1, rfl, z, rfl, hz, (by show 2 ≤ sizeLine; decide), fun t nt => q t nt⟩
    · rw [if_neg c] at q
      refine iteN (by simpa using c) ⟨.str z, rfl, (by show 2 ≤ sizeLine; decide), fun t nt => q t nt⟩
/-- _is_due(word, at, wide) -/
def spIsDue : Sp := fun vs H Q _ => ∃ (z : Str) (i wide : Nat), vs = [.str z, .int i, .int wide] ∧ z.length ≤ sizeLine ∧ ∀ H', Same H H' → Q (.bl (isDue z i wide)) H'
theorem thing_len (z : Str) : (thingOf z).1.length ≤ z.length := by
  unfold thingOf
  split
  · rw [cut_one]
    have : z.length = z.cps.toList.length := by simp [Str.length]
    rw [this]
    show (z.cps.toList.drop 1).toArray.size ≤ _
    rw [List.size_toArray, List.length_drop]
    omega
  · exact Nat.le_refl _
theorem ok_isDue {f fT fN : Addr} {fd fdT fdN : FuncData} (F : Fun K "_is_due" "_is_due" sIsDue f fd) (D__thing_of : Def P w K mg base 1 "_thing_of" ["word"] spThingOf fT fdT) (D_is_name : Def P w K mg base 1 "is_name" ["word"] spIsName fN fdN) :
    FnOk P w K mg base CX0 2 f fd ["word", "at", "wide"] spIsDue := by
  refine F.ok scIsDue (fun vs H Q E h => ?_) (fun cdv A outer s H vs Q E hr h => ?_)
  · obtain ⟨z, i, wide, rfl, _⟩ := h
    rfl
  · obtain ⟨z, i, wide, rfl, hz, q⟩ := h
    refine ⟨_, (pss_cons (ps_if (pt_cmpR op_eq (pe_op op_mod (pv 1) (pe_op op_add (pv 2) pe_int)) (pv 2) (nomark _)) (pss_one (ps_ret (pe_cmpR op_eq (pv 0) pe_str (nomark _)))) pss_nil)
      (pss_cons (ps_asg (pe_call D__thing_of.ok (hr.mono (by decide)) (by rfl) D__thing_of.g D__thing_of.kp D__thing_of.b .nil pass0 (pa_cons (pv 0) pa_nil)) (pg_tup (by rfl) (pgs_cons (pg_name (i := 3) scIsDue.nd rfl (by first | exact .inl rfl | exact .inr rfl)) (pgs_cons (pg_name (i := 4) scIsDue.nd rfl (by first | exact .inl rfl | exact .inr rfl)) pgs_nil))))
      (pss_one (ps_ret (pe_call D_is_name.ok (hr.mono (by decide)) (by rfl) D_is_name.g D_is_name.kp D_is_name.b .nil pass0 (pa_cons (pv 3) pa_nil)))))), ?_⟩
    have em : (i : Int) % ((wide : Int) + 1) = ((i % (wide + 1) : Nat) : Int) := by rw [Int.natCast_emod]; rfl
    refine ⟨.int i, rfl, .int wide, rfl, wide, 1, rfl, rfl, i, _, rfl, rfl, by show (0 : Int) < (wide : Int) + 1; omega, .int wide, rfl, rfl, _, rfl, ?_⟩
    unfold isDue at q
    by_cases c : i % (wide + 1) = wide
    · rw [if_pos c] at q
      refine iteP (decide_eq_true ?_) ?_
      · show V.int ((i : Int) % ((wide : Int) + 1)) = V.int wide
        rw [em, c]
      · have := q H (Same.refl H)
        refine ⟨.str z, rfl, rfl, ?_⟩
        have e : decide (V.str z = V.str slash) = decide (z = slash) := by
          by_cases h : z = slash
          · rw [h]; rfl
          · rw [decide_eq_false h, decide_eq_false fun x => h (V.str.inj x)]
        rw [← e] at this
        exact this
    · rw [if_neg c] at q
      refine iteN (decide_eq_false fun x => c ?_) ?_
      · have x' : V.int ((i : Int) % ((wide : Int) + 1)) = V.int wide := x
        rw [em] at x'
        have := V.int.inj x'
        omega
      · refine ⟨.str z, rfl, z, rfl, hz, fun t nt => ?_⟩
        refine ⟨t, thing (thingOf z), rfl, .inl (.inl upd_same), rfl, .str (thingOf z).1, [.int (thingOf z).2], rfl, .int (thingOf z).2, [], rfl, rfl, ?_⟩
        refine ⟨.str (thingOf z).1, rfl, _, rfl, Nat.le_trans (thing_len z) hz, fun H' s => q H' ((same_upd nt).trans s)⟩
end
end L_k03

namespace L_k03
open PySem PySem.Spec PyProof.Rows L2 Lot
abbrev sReadStanding : Stmt := topS 20
theorem scReadStanding : FnScope ["board", "text", "high", "wide", "words_due", "words", "at", "word"] ["board", "text"] (defScope sReadStanding) := ⟨rfl, rfl, rfl, by decide +kernel, rfl, by decide +kernel, by decide +kernel⟩
section
variable {P : Program} {w : World} {K : PySem.W.Frag} {mg : Str → Option Value} {base : Heap}
/-- a text read: a standing, or NoStanding with the first word that is not due -/
def spRead (C : Addr) : Sp := fun vs H Q E => ∃ (b : Addr) (bd : Bd) (text : Str), vs = [.ref b, .str text] ∧ H b = some (.tup bd.vals) ∧ bd.Ok 36 ∧ text.length ≤ 10000 ∧
  (∀ i, badAt bd text = some i → ∀ H' d, Same H H' → H' d = none → E (.ref C) (some d) (upd H' d (.xd [("at", .int (i : Nat))]))) ∧
  (badAt bd text = none → ∀ H' t, Same H H' → H t = none → StandAt H' t (thingsIn (Txt.split text blank)) → Q (.ref t) H')
theorem high_le {bd : Bd} (ok : bd.Ok 36) : bd.high ≤ 36 ∧ bd.wide ≤ 36 := by
  cases bd with
  | row n => exact ⟨by show 1 ≤ 36; decide, ok.2⟩
  | ring n => exact ⟨by show 1 ≤ 36; decide, ok.2⟩
  | floor h w =>
    obtain ⟨o1, o2, o3⟩ := ok
    exact ⟨Nat.le_trans (Nat.le_mul_of_pos_right h o2) o3, Nat.le_trans (Nat.le_mul_of_pos_left w o1) o3⟩
theorem ok_read {f fH fT fD C fI cc cda : Addr} {fd fdH fdT fdD : FuncData} {st : Stmt} {qual : Str} {msg : Expr} (F : Fun K "read_standing" "read_standing" sReadStanding f fd) (D_high_and_wide : Def P w K mg base 1 "high_and_wide" ["board"] spHigh fH fdH)
    (D__thing_of : Def P w K mg base 1 "_thing_of" ["word"] spThingOf fT fdT) (D__is_due : Def P w K mg base 2 "_is_due" ["word", "at", "wide"] spIsDue fD fdD) (m_enumerate : mg "enumerate" = none) (m_len : mg "len" = none) (m_tuple : mg "tuple" = none)
    (T : SupTxt P K st qual "at" msg C fI cc cda) (Tx : SupText st "at" msg) (M : MsgOk P w msg "at" okInt) (gN : mg "NoStanding" = some (.ref C)) :
    FnOk P w K mg base (L2.CX P w) 4 f fd ["board", "text"] (spRead C) := by
  refine F.okX scReadStanding (fun vs H Q E h => ?_) (fun cdv A outer s H vs Q E hr h => ?_)
  · obtain ⟨b, bd, text, rfl, _⟩ := h
    rfl
  · obtain ⟨b, bd, text, rfl, hB, ok, htl, eX, q⟩ := h
    have hw := high_le ok
    have hp := Bd.pos ok
    have hsl := Lot.split_le text
    have hsz : 20000 ≤ sizeLine := by decide
    unfold badAt at eX q
    generalize hws : Txt.split text blank = ws at *
    refine ⟨_, (pss_cons (ps_asg (pe_call D_high_and_wide.ok (hr.mono (by decide)) (by rfl) D_high_and_wide.g D_high_and_wide.kp D_high_and_wide.b .nil pass0 (pa_cons (pv 0) pa_nil)) (pg_tup (by rfl) (pgs_cons (pg_name (i := 2) scReadStanding.nd rfl (by first | exact .inl rfl | exact .inr rfl)) (pgs_cons (pg_name (i := 3) scReadStanding.nd rfl (by first | exact .inl rfl | exact .inr rfl)) pgs_nil))))
      (pss_cons (ps_set (i := 4) scReadStanding.nd rfl (by first | exact .inl rfl | exact .inr rfl) (pe_op op_sub (pe_op op_mul (pv 2) (pe_op op_add (pv 3) pe_int)) pe_int))
      (pss_cons (ps_set (i := 5) scReadStanding.nd rfl (by first | exact .inl rfl | exact .inr rfl) (pe_split (pv 1) pe_str))
      (pss_cons (ps_for (passes_of rfl) rfl (pi_enum (by rfl) m_enumerate (pa_cons (pv 5) pa_nil)) (pg_tup (by rfl) (pgs_cons (pg_name (i := 6) scReadStanding.nd rfl (by first | exact .inl rfl | exact .inr rfl)) (pgs_cons (pg_name (i := 7) scReadStanding.nd rfl (by first | exact .inl rfl | exact .inr rfl)) pgs_nil))) (pss_one (ps_if (PW.pt (pw_or (pt_cmpR op_ge (pv 6) (pv 4) (nomark _)) (pw_or1 (pt_not (pt_val (pe_call D__is_due.ok (hr.mono (by decide)) (by rfl) D__is_due.g D__is_due.kp D__is_due.b .nil pass0 (pa_cons (pv 7) (pa_cons (pv 6) (pa_cons (pv 3) pa_nil))))))))) (pss_one (ps_raiseSup (okV := okI) rfl T Tx M okI_rel gN hr (takes_of rfl rfl rfl rfl) (by exact (pa_cons (pv 6) pa_nil)))) pss_nil)))
      (pss_cons (ps_if (pt_cmpR op_lt (pe_callB call_len_seq (by rfl) m_len PySem.boot_len (pa_cons (pv 5) pa_nil)) (pv 4) (nomark _)) (pss_one (ps_raiseSup (okV := okI) rfl T Tx M okI_rel gN hr (takes_of rfl rfl rfl rfl) (by exact (pa_cons (pe_callB call_len_seq (by rfl) m_len PySem.boot_len (pa_cons (pv 5) pa_nil)) pa_nil)))) pss_nil)
      (pss_one (ps_ret (pe_callTy call_tuple_of (by rfl) m_tuple (by decide +kernel) (pa_cons (pe_lc (own := [("word", 7)]) (g := gName 7) rfl scReadStanding.nd (pi_list (pv 5)) (blkOk_by (own := [("word", 7)]) (N := ["board", "text", "high", "wide", "words_due", "words", "at", "word"]) (sc := defScope sReadStanding) (by decide +kernel)) (fun _ _ _ _ _ => (pg_name (i := 7) scReadStanding.nd rfl (by first | exact .inl rfl | exact .inr rfl))) (fun _ _ _ _ _ => pts_one (by exact (pt_cmpR op_ne (pv 7) pe_str (nomark _)))) (fun _ _ _ _ _ => by exact (pe_call D__thing_of.ok (hr.mono (by decide)) (by rfl) D__thing_of.g D__thing_of.kp D__thing_of.b .nil pass0 (pa_cons (pv 7) pa_nil)))) pa_nil))))))))), ?_⟩
    refine ⟨.ref b, rfl, b, bd, rfl, hB, fun u nu => ?_⟩
    refine ⟨u, [.int bd.high, .int bd.wide], rfl, .inl (.inl upd_same), rfl, .int bd.high, [.int bd.wide], rfl, .int bd.wide, [], rfl, rfl, ?_⟩
    have S1 := same_upd (o := .tup [.int bd.high, .int bd.wide]) nu
    generalize (upd H u (.tup [.int bd.high, .int bd.wide])) = H1 at *
    refine ⟨.int bd.high, rfl, .int bd.wide, rfl, bd.wide, 1, rfl, rfl, bd.high, _, rfl, rfl, .inl ⟨by omega, by omega⟩, _, 1, rfl, rfl, ?_⟩
    have edue : (bd.high : Int) * ((bd.wide : Int) + 1) - 1 = (dueMany bd : Int) := by
      unfold dueMany
      have h1 : 1 ≤ bd.high * (bd.wide + 1) := Nat.mul_pos hp.1 (Nat.succ_pos _)
      rw [Int.natCast_sub h1, Int.natCast_mul]
      rfl
    have due_le : dueMany bd ≤ 36 * 37 := by
      unfold dueMany
      have : bd.high * (bd.wide + 1) ≤ 36 * 37 := Nat.mul_le_mul hw.1 (by omega)
      omega
    refine ⟨.str text, rfl, ⟨_, rfl⟩, text, blank, rfl, rfl, by decide +kernel, by omega, fun W nW => ?_⟩
    rw [hws]
    have S2 := S1.trans (same_upd (o := .lst (ws.map V.str)) nW)
    have eW : (upd H1 W (.lst (ws.map V.str))) W = some (.lst (ws.map V.str)) := upd_same
    generalize (upd H1 W (.lst (ws.map V.str))) = H2 at *
    have wsl : ∀ z ∈ ws, z.length ≤ sizeLine := fun z hz => by have := hsl.1 z hz; omega
    refine ⟨.ref W, rfl, W, _, rfl, .inl (.inl eW), ?_⟩
    refine for_it (walk_enum (xs := ws.map V.str)) (fun i σ H' => (∃ y6 y7, σ = [some (.ref b), some (.str text), some (.int bd.high), some (.int bd.wide), some (.int ((bd.high : Int) * ((bd.wide : Int) + 1) - 1)), some (.ref W), y6, y7]) ∧ Same H2 H' ∧ ∀ j z, j < i → ws[j]? = some z → (decide (dueMany bd ≤ j) || !isDue z j bd.wide) = false)
      ⟨⟨none, none, rfl⟩, Same.refl _, fun j z h => absurd h (Nat.not_lt_zero _)⟩ (fun i σ H' hi hI => .inl (.inl (hI.2.1 _ _ eW))) (fun i x σ H' H'' hi hI hY => ?_) (fun σ H' hI => ?_)
    · obtain ⟨⟨y6, y7, rfl⟩, s, hgood⟩ := hI
      obtain ⟨T1, a1, a2, rfl, nT, rfl, g1, g2⟩ := hY
      obtain rfl : a1 = .int (i : Nat) := (Option.some.inj g1).symm
      rw [List.length_map] at hi
      obtain ⟨z, hz⟩ : ∃ z, ws[i]? = some z := ⟨_, List.getElem?_eq_getElem hi⟩
      obtain rfl : a2 = .str z := by
        have g2' : (ws.map V.str)[i]? = some a2 := g2
        rw [List.getElem?_map, hz] at g2'
        exact (Option.some.inj g2').symm
      have hi2 : i ≤ 10001 := by have := hsl.2; omega
      refine ⟨T1, [.int (i : Nat), .str z], rfl, .inl (.inl upd_same), rfl, .int (i : Nat), [.str z], rfl, .str z, [], rfl, rfl, ?_⟩
      have S3 := (S2.trans s).trans (same_upd (o := .tup [.int (i : Nat), .str z]) nT)
      refine ⟨.int (i : Nat), rfl, .int _, rfl, i, _, rfl, rfl, _, rfl, ite2 (fun e => ?_) (fun e => ?_)⟩
      · have hbad : (decide (dueMany bd ≤ i) || !isDue z i bd.wide) = true := by
          have h1 : (bd.high : Int) * ((bd.wide : Int) + 1) - 1 ≤ (i : Nat) := of_decide_eq_true e
          rw [edue] at h1
          rw [decide_eq_true (show dueMany bd ≤ i by omega), Bool.true_or]
        refine ⟨.int (i : Nat), rfl, .int (i : Nat), rfl, okI_nat (Nat.lt_of_le_of_lt hi2 (by decide)), fun d hd => ?_⟩
        exact eX i (firstBad_here hgood hz hbad) _ d S3 hd
      · have hlt : ¬ dueMany bd ≤ i := fun h => e (decide_eq_true (by
          show (bd.high : Int) * ((bd.wide : Int) + 1) - 1 ≤ (i : Nat)
          rw [edue]; omega))
        refine ⟨.str z, rfl, .int (i : Nat), rfl, .int bd.wide, rfl, z, i, bd.wide, rfl, wsl z (List.mem_of_getElem? hz), fun H3 s3 => ?_⟩
        cases hdue : isDue z i bd.wide with
        | false =>
          refine ⟨false, rfl, iteP rfl ?_⟩
          refine ⟨.int (i : Nat), rfl, .int (i : Nat), rfl, okI_nat (Nat.lt_of_le_of_lt hi2 (by decide)), fun d hd => ?_⟩
          exact eX i (firstBad_here hgood hz (by rw [hdue]; simp)) _ d (S3.trans s3) hd
        | true =>
          refine ⟨true, rfl, iteN rfl ⟨⟨_, _, rfl⟩, (s.trans (same_upd nT)).trans s3, fun j y hj hy => ?_⟩⟩
          by_cases c : j = i
          · subst c
            rw [hz] at hy
            have := Option.some.inj hy
            subst this
            rw [hdue, decide_eq_false hlt]
            rfl
          · exact hgood j y (by omega) hy
    · obtain ⟨⟨y6, y7, rfl⟩, s, hgood⟩ := hI
      have eW' := s _ _ eW
      have hall : ∀ j z, ws[j]? = some z → (decide (dueMany bd ≤ j) || !isDue z j bd.wide) = false := fun j z hz => hgood j z (by rw [List.length_map]; exact (List.getElem?_eq_some_iff.mp hz).1) hz
      have hend := firstBad_end hall
      refine ⟨.ref W, rfl, W, _, rfl, .inl (.inl (.inl eW')), .int _, rfl, _, _, rfl, rfl, _, rfl, ite2 (fun e => ?_) (fun e => ?_)⟩
      · have c := of_decide_eq_true e
        rw [List.length_map] at c
        have c' : ws.length < dueMany bd := by omega
        refine ⟨.ref W, rfl, W, _, rfl, .inl (.inl (.inl eW')), _, rfl, okI_nat (by rw [List.length_map]; exact Nat.lt_of_le_of_lt (show ws.length ≤ 10001 by have := hsl.2; omega) (by decide)), fun d hd => ?_⟩
        rw [List.length_map]
        exact eX ws.length (by rw [hend, if_pos c']) _ d (S2.trans s) hd
      · have c' : ¬ ws.length < dueMany bd := fun h => e (decide_eq_true (by
          show (((ws.map V.str).length : Nat) : Int) < (bd.high : Int) * ((bd.wide : Int) + 1) - 1
          rw [List.length_map, edue]; omega))
        have hnone : firstBad (dueMany bd) bd.wide 0 ws = none := by rw [hend, if_neg c']
        have hwl := (firstBad_none hnone (Nat.zero_le _)).2
        refine ⟨.ref W, rfl, W, rfl, ⟨_, .inl (.inl eW')⟩, fun D nD => ?_⟩
        refine lc_list (K := K) (a := W) (xs := ws.map V.str) (fun i H3 => ∃ as : List Addr, H3 D = some (.lst (as.map V.ref)) ∧ Things H3 as (thingsIn (ws.take i)) ∧ Same H' H3) ⟨[], upd_same, trivial, same_upd nD⟩ (fun i H3 hi hI => ?_) (fun i y H3 hy hI => ?_) (fun H3 hI => ?_)
        · obtain ⟨as, e1, e2, e3⟩ := hI
          exact .inl (.inl (e3 _ _ eW'))
        · obtain ⟨as, e1, e2, e3⟩ := hI
          obtain ⟨z, hz, rfl⟩ : ∃ z, ws[i]? = some z ∧ y = V.str z := by
            rw [List.getElem?_map] at hy
            cases e : ws[i]? with
            | none => rw [e] at hy; cases hy
            | some z => rw [e] at hy; exact ⟨z, rfl, (Option.some.inj hy).symm⟩
          have hzl := wsl z (List.mem_of_getElem? hz)
          have hil := (List.getElem?_eq_some_iff.mp hz).1
          refine ⟨rfl, .str z, rfl, rfl, _, rfl, ?_⟩
          by_cases c : z = slash
          · refine iteN (by rw [c]; decide +kernel) ⟨as, e1, ?_, e3⟩
            unfold thingsIn at e2 ⊢
            rw [List.take_add_one, hz, List.filter_append, show (some z).toList = [z] from rfl, List.filter_cons_of_neg (by rw [decide_eq_true c]; decide), List.filter_nil, List.append_nil]
            exact e2
          · have c' : (!decide (V.str z = V.str (Str.ofString "/"))) = true := by
              rw [decide_eq_false fun x => c (V.str.inj x)]; rfl
            refine iteP c' ?_
            refine ⟨.str z, rfl, z, rfl, hzl, fun t nt => ?_⟩
            have Dt : D ≠ t := fun x => by rw [← x, e1] at nt; cases nt
            have e1b : (upd H3 t (.tup (thing (thingOf z)))) D = some (.lst (as.map V.ref)) := by rw [upd_ne Dt]; exact e1
            have e2b : Things (upd H3 t (.tup (thing (thingOf z)))) (as ++ [t]) (thingsIn (ws.take i) ++ [thingOf z]) := Things.snoc upd_same (e2.same (same_upd nt))
            have hal := e2.length
            have hle : (thingsIn (ws.take i)).length ≤ i := by
              unfold thingsIn
              rw [List.length_map]
              refine Nat.le_trans (List.length_filter_le _ _) ?_
              rw [List.length_take]
              exact Nat.min_le_left _ _
            refine ⟨as.map V.ref, e1b, ?_, as ++ [t], ?_, ?_, same_new (e3.trans (same_upd nt)) nD⟩
            · rw [List.length_map]
              exact Nat.lt_of_lt_of_le (show as.length < 20000 by omega) hsz
            · rw [upd_same, List.map_append]; rfl
            · have et : thingsIn (ws.take (i + 1)) = thingsIn (ws.take i) ++ [thingOf z] := by
                unfold thingsIn
                rw [List.take_add_one, hz, List.filter_append, show (some z).toList = [z] from rfl, List.filter_cons_of_pos (by rw [decide_eq_false c]; rfl), List.filter_nil, List.map_append]
                rfl
              rw [et]
              exact e2b.but But.upd ⟨_, e1b⟩
        · obtain ⟨as, e1, e2, e3⟩ := hI
          rw [List.length_map, List.take_length] at e2
          refine ⟨D, _, rfl, .inl ⟨.inl (.inl e1), fun t nt => ?_⟩⟩
          have S3 := (S2.trans s).trans e3
          exact q hnone _ t (S3.trans (same_upd nt)) (S3.free nt) ⟨as, upd_same, e2.same (same_upd nt)⟩
end
end L_k03

namespace L_k03
open PySem PySem.Spec PyProof.Rows L2 Lot
abbrev sThing : Stmt := topS 34
theorem scThing : FnScope ["word", "face", "name", "sign"] ["word"] (defScope sThing) := ⟨rfl, rfl, rfl, by decide +kernel, rfl, by decide +kernel, by decide +kernel⟩
abbrev sDue : Stmt := topS 35
theorem scDue : FnScope ["board", "text", "words", "found", "at", "cell", "edge"] ["board", "text"] (defScope sDue) := ⟨rfl, rfl, rfl, by decide +kernel, rfl, by decide +kernel, by decide +kernel⟩
section
variable {P : Program} {w : World} {K : PySem.W.Frag} {mg : Str → Option Value} {base : Heap}
def Ascii (z : Str) : Prop := ∀ c ∈ z.cps.toList, c < 128
theorem filter_empty {p : Nat → Bool} : ∀ l : List Nat, (l.filter fun c => !p c).isEmpty = l.all p
  | [] => rfl
  | c :: l => by
    have ih := filter_empty (p := p) l
    cases h : p c with
    | true => rw [List.filter_cons_of_neg (by rw [h]; decide), ih, List.all_cons, h, Bool.true_and]
    | false => rw [List.filter_cons_of_pos (by rw [h]; rfl), List.all_cons, h, Bool.false_and]; rfl
/-- _law_thing(word) -/
def spLThing : Sp := fun vs H Q _ => ∃ z : Str, vs = [.str z] ∧ z.length ≤ 20000 ∧ Ascii z ∧ (isName (thingOf z).1 = true → ∀ H' t, Same H H' → H t = none → H' t = some (.tup (thing (thingOf z))) → Q (.ref t) H') ∧ (isName (thingOf z).1 = false → ∀ H', Same H H' → Q .non H')
theorem ok_lthing {f : Addr} {fd : FuncData} (F : Fun K "_law_thing" "_law_thing" sThing f fd) (m_int : mg "int" = none) (m_len : mg "len" = none) : FnOk P w K mg base CX0 1 f fd ["word"] spLThing := by
  refine F.ok scThing (fun vs H Q E h => ?_) (fun cdv A outer s H vs Q E hr h => ?_)
  · obtain ⟨z, rfl, _⟩ := h
    rfl
  · obtain ⟨z, rfl, hz, asc, qy, qn⟩ := h
    refine ⟨_, (pss_cons (ps_set (i := 1) scThing.nd rfl (by first | exact .inl rfl | exact .inr rfl) (pe_callTy call_int1 (by rfl) m_int (by decide +kernel) (pa_cons (pe_cmpR op_eq (pe_slice sl_str (pv 0) po_none (po_some pe_int)) pe_str (nomark _)) pa_nil)))
      (pss_cons (ps_set (i := 2) scThing.nd rfl (by first | exact .inl rfl | exact .inr rfl) (pe_slice sl_str (pv 0) (po_some (pv 1)) po_none))
      (pss_cons (ps_if (PW.pt (pw_or (pt_cmpR op_lt (pe_callB call_len_str (by rfl) m_len PySem.boot_len (pa_cons (pv 2) pa_nil)) pe_int (nomark _)) (pw_or1 (pt_cmpR op_gt (pe_callB call_len_str (by rfl) m_len PySem.boot_len (pa_cons (pv 2) pa_nil)) pe_int (nomark _))))) (pss_one (ps_ret pe_non)) pss_nil)
      (pss_cons (ps_if (pt_cmpR (op_neD hr.units) (pe_lc (own := [("sign", 3)]) (g := gName 3) rfl scThing.nd (pi_str (pv 2)) (blkOk_by (own := [("sign", 3)]) (N := ["word", "face", "name", "sign"]) (sc := defScope sThing) (by decide +kernel)) (fun _ _ _ _ _ => (pg_name (i := 3) scThing.nd rfl (by first | exact .inl rfl | exact .inr rfl))) (fun _ _ _ _ _ => pts_one (by exact (pt_cmpR op_notIn_sign (pv 3) pe_str (by rfl)))) (fun _ _ _ _ _ => by exact (pv 3))) (pe_lst pa_nil) (nomark _)) (pss_one (ps_ret pe_non)) pss_nil)
      (pss_one (ps_ret (pe_tup (pa_cons (pv 2) (pa_cons (pv 1) pa_nil))))))))), ?_⟩
    have hsz : 30000 ≤ sizeLine := by decide
    obtain ⟨name, face, hth⟩ : ∃ name face, thingOf z = (name, face) := ⟨_, _, rfl⟩
    have hface : face = if Txt.startswith z minus = true then 1 else 0 := by
      unfold thingOf at hth
      by_cases c : Txt.startswith z minus = true
      · rw [if_pos c] at hth ⊢
        exact (Prod.mk.inj hth).2.symm
      · rw [if_neg c] at hth ⊢
        exact (Prod.mk.inj hth).2.symm
    have hname : cutS z (some (face : Int)) none = name := by
      unfold thingOf at hth
      by_cases c : Txt.startswith z minus = true
      · rw [if_pos c] at hth hface
        rw [hface]
        exact (Prod.mk.inj hth).1
      · rw [if_neg c] at hth hface
        rw [hface, ← (Prod.mk.inj hth).1]
        exact cut_zero z
    have hnl : name.length ≤ z.length := by
      have := thing_len z
      rw [hth] at this
      exact this
    have hnasc : ∀ c ∈ name.cps.toList, c < 128 := by
      intro c hc
      unfold thingOf at hth
      split at hth
      · rw [← (Prod.mk.inj hth).1, cut_one] at hc
        exact asc c (List.mem_of_mem_drop hc)
      · rw [← (Prod.mk.inj hth).1] at hc
        exact asc c hc
    rw [hth] at qy qn
    replace qy : isName name = true → ∀ H' t, Same H H' → H t = none → H' t = some (.tup (thing (name, face))) → Q (.ref t) H' := qy
    replace qn : isName name = false → ∀ H', Same H H' → Q .non H' := qn
    have hlen : name.length = name.cps.toList.length := by simp [Str.length]
    refine ⟨.str z, rfl, 1, rfl, z, rfl, by omega, rfl, .inr ⟨_, rfl, ?_⟩⟩
    have hf2 : (if decide (V.str (cutS z none (some 1)) = V.str (Str.ofString "-")) = true then (1 : Int) else 0) = (face : Int) := by
      rw [hface]
      by_cases c : Txt.startswith z minus = true
      · rw [if_pos c]
        exact if_pos (decide_eq_true (congrArg V.str ((cut_head z).mpr c)))
      · rw [if_neg c]
        exact if_neg (fun h => c ((cut_head z).mp (V.str.inj (of_decide_eq_true h))))
    refine ⟨.str z, rfl, .int (face : Int), congrArg (fun i => some (some (V.int i))) hf2, (face : Int), rfl, z, rfl, by omega, ?_⟩
    have sl : ∀ σ : L2.St, σ = [some (.str z), some (.int (face : Int)), some (.str name), none] → _ := fun σ _ => trivial
    refine ⟨.str (cutS z (some (face : Int)) none), rfl, cutS z (some (face : Int)) none, rfl, by rw [hname]; omega, _, 1, rfl, rfl, _, rfl, ?_⟩
    rw [hname]
    by_cases c1 : name.length < 1
    · refine iteP (decide_eq_true (by omega)) ?_
      refine qn ?_ H (Same.refl H)
      unfold isName
      rw [decide_eq_false (by omega)]; rfl
    · refine iteN (decide_eq_false (by omega)) ?_
      refine ⟨.str name, rfl, name, rfl, by omega, _, 4, rfl, rfl, _, rfl, ?_⟩
      by_cases c2 : 4 < name.length
      · refine iteP (decide_eq_true (by omega)) ?_
        refine qn ?_ H (Same.refl H)
        unfold isName
        rw [decide_eq_false (show ¬ name.length ≤ 4 by omega), Bool.and_false]; rfl
      · refine iteN (decide_eq_false (by omega)) ?_
        refine ⟨.str name, rfl, name, rfl, fun D nD => ?_⟩
        refine lc_it walk_str (fun i H' => H' D = some (.lst (((name.cps.toList.take i).filter fun c => !decide (c ∈ abc.cps.toList)).map fun c => V.str ⟨#[c]⟩)) ∧ Same H H') ⟨upd_same, same_upd nD⟩ (fun _ _ _ _ => trivial) (fun i x H1 H2 hi hI hY => ?_) (fun H' hI => ?_)
        · obtain ⟨e1, e2⟩ := hI
          obtain ⟨rfl, c, hc, rfl⟩ := hY
          have hc' : name.cps.toList[i]? = some c := by rw [Array.getElem?_toList]; exact hc
          refine ⟨rfl, .str ⟨#[c]⟩, rfl, c, abc, rfl, rfl, _, rfl, ?_⟩
          by_cases m : c ∈ abc.cps.toList
          · refine iteN (by rw [decide_eq_true m]; rfl) ⟨?_, e2⟩
            rw [List.take_add_one, hc', List.filter_append, show (some c).toList = [c] from rfl, List.filter_cons_of_neg (by rw [decide_eq_true m]; decide), List.filter_nil, List.append_nil]
            exact e1
          · refine iteP (by rw [decide_eq_false m]; rfl) ⟨.str ⟨#[c]⟩, rfl, _, e1, ?_, ?_, same_new e2 nD⟩
            · rw [List.length_map]
              refine Nat.lt_of_le_of_lt (List.length_filter_le _ _) ?_
              rw [List.length_take]
              omega
            · rw [upd_same, List.take_add_one, hc', List.filter_append, show (some c).toList = [c] from rfl, List.filter_cons_of_pos (by rw [decide_eq_false m]; rfl), List.filter_nil, List.map_append]
              rfl
        · obtain ⟨e1, e2⟩ := hI
          have ea : name.cps.toList.take name.cps.size = name.cps.toList := List.take_of_length_le (by rw [Array.length_toList]; exact Nat.le_refl _)
          rw [ea] at e1
          generalize hodd : (name.cps.toList.filter fun c => !decide (c ∈ abc.cps.toList)) = odd at *
          have hoa : ∀ c ∈ odd, c < 128 := fun c hc => by
            rw [← hodd] at hc
            exact hnasc c (List.mem_filter.mp hc).1
          refine ⟨Nat.zero_le _, fun L nL => ?_⟩
          have S2 := e2.trans (same_upd (o := .lst []) nL)
          have eD : (upd H' L (.lst [])) D = some (.lst (odd.map fun c => V.str ⟨#[c]⟩)) := same_upd nL _ _ e1
          refine ⟨dSigns odd, .list [], .lst (.inl (.inl eD)) (signs_data odd), .lst (.inl (.inl upd_same)) .nil, signs_shaped hoa, by decide, _, rfl, ?_⟩
          rw [signs_nil]
          have e3 : isName name = odd.isEmpty := by
            unfold isName
            rw [decide_eq_true (show 1 ≤ name.length by omega), decide_eq_true (show name.length ≤ 4 by omega), ← hodd]
            show (true && List.all _ _) = _
            rw [Bool.true_and, filter_empty]
          cases ho : odd.isEmpty with
          | true =>
            refine iteN rfl ?_
            refine ⟨.str name, rfl, .int (face : Int), congrArg (fun i => some (some (V.int i))) hf2, (by show 2 ≤ sizeLine; decide), fun t nt => ?_⟩
            exact qy (by rw [e3]; exact ho) _ t (S2.trans (same_upd nt)) (S2.free nt) upd_same
          | false =>
            refine iteP rfl ?_
            exact qn (by rw [e3]; exact ho) _ S2
/-- _law_due(board, text): what reading it should tell -/
def spDue : Sp := fun vs H Q _ => ∃ (b : Addr) (bd : Bd) (text : Str), vs = [.ref b, .str text] ∧ H b = some (.tup bd.vals) ∧ bd.Ok 36 ∧ text.length ≤ 10000 ∧ Ascii text ∧
  (∀ i, badAt bd text = some i → ∀ H', Same H H' → Q (.int (i : Nat)) H') ∧
  (badAt bd text = none → ∀ H' t, Same H H' → H t = none → StandAt H' t (thingsIn (Txt.split text blank)) → Q (.ref t) H')
theorem ok_due {f fC fT : Addr} {fd fdC fdT : FuncData} (F : Fun K "_law_due" "_law_due" sDue f fd) (D__law_cells : Def P w K mg base 1 "_law_cells" ["board"] (spCells K) fC fdC) (D__law_thing : Def P w K mg base 1 "_law_thing" ["word"] spLThing fT fdT)
    (m_range : mg "range" = none) (m_len : mg "len" = none) (m_int : mg "int" = none) (m_tuple : mg "tuple" = none) : FnOk P w K mg base CX0 2 f fd ["board", "text"] spDue := by
  refine F.ok scDue (fun vs H Q E h => ?_) (fun cdv A outer s H vs Q E hr h => ?_)
  · obtain ⟨b, bd, text, rfl, _⟩ := h
    rfl
  · obtain ⟨b, bd, text, rfl, hB, ok, htl, asc, qb, qg⟩ := h
    have hw := high_le ok
    have hp := Bd.pos ok
    have hc36 := Bd.cells_le ok
    have hsl := Lot.split_le text
    have hasc : ∀ z ∈ Txt.split text blank, Ascii z := fun z hz c hc => asc c (split_mem text z hz c hc)
    have hsz : 30000 ≤ sizeLine := by decide
    have hcells : bd.cells = bd.high * bd.wide := rfl
    unfold badAt at qb qg
    generalize hws : Txt.split text blank = ws at *
    refine ⟨_, (pss_cons (ps_set (i := 2) scDue.nd rfl (by first | exact .inl rfl | exact .inr rfl) (pe_split (pv 1) pe_str))
      (pss_cons (ps_set (i := 3) scDue.nd rfl (by first | exact .inl rfl | exact .inr rfl) (pe_lst pa_nil))
      (pss_cons (ps_set (i := 4) scDue.nd rfl (by first | exact .inl rfl | exact .inr rfl) pe_int)
      (pss_cons (ps_for PassesOwn.never rfl (pi_range1 (by rfl) m_range (pa_cons (pe_call D__law_cells.ok (hr.mono (by decide)) (by rfl) D__law_cells.g D__law_cells.kp D__law_cells.b .nil pass0 (pa_cons (pv 0) pa_nil)) pa_nil)) (pg_name (i := 5) scDue.nd rfl (by first | exact .inl rfl | exact .inr rfl)) (C8.pss_cut (ps_set (i := 6) scDue.nd rfl (by first | exact .inl rfl | exact .inr rfl) (pe_and (pe_cmpR op_eq (pe_ix ix_tup (pv 0) pe_int (fun _ _ => rfl)) pe_str (nomark _)) (pe_and (pe_cmpR op_gt (pv 5) pe_int (nomark _)) (pe_one (pe_cmpR op_eq (pe_op op_mod (pv 5) (pe_ix ix_tup (pv 0) pe_int (fun _ _ => rfl))) pe_int (nomark _))))))
      (C8.pss_cut (ps_if (PW.pt (pw_and (pt_val (pv 6)) (pw_and1 (PW.pt (pw_or (pt_cmpR op_eq (pv 4) (pe_callB call_len_seq (by rfl) m_len PySem.boot_len (pa_cons (pv 2) pa_nil)) (nomark _)) (pw_or1 (pt_cmpR op_ne (pe_ix ix_list (pv 2) (pv 4) (fun _ _ => rfl)) pe_str (nomark _)))))))) (pss_one (ps_ret (pv 4))) pss_nil)
      (pss_cons (ps_set (i := 4) scDue.nd rfl (by first | exact .inl rfl | exact .inr rfl) (pe_op op_add (pv 4) (pe_callTy call_int1 (by rfl) m_int (by decide +kernel) (pa_cons (pv 6) pa_nil))))
      (C8.pss_cut (ps_if (PW.pt (pw_or (pt_cmpR op_eq (pv 4) (pe_callB call_len_seq (by rfl) m_len PySem.boot_len (pa_cons (pv 2) pa_nil)) (nomark _)) (pw_or1 (pt_cmpR op_isN (pe_call D__law_thing.ok (hr.mono (by decide)) (by rfl) D__law_thing.g D__law_thing.kp D__law_thing.b .nil pass0 (pa_cons (pe_ix ix_list (pv 2) (pv 4) (fun _ _ => rfl)) pa_nil)) pe_non (nomark _))))) (pss_one (ps_ret (pv 4))) pss_nil)
      (pss_cons (ps_expr (pe_bm PySem.F.plainAttrs_list PySem.F.slot_list_append PySem.F.type_list_append mt_append (pv 3) (by exact (pa_cons (pe_call D__law_thing.ok (hr.mono (by decide)) (by rfl) D__law_thing.g D__law_thing.kp D__law_thing.b .nil pass0 (pa_cons (pe_ix ix_list (pv 2) (pv 4) (fun _ _ => rfl)) pa_nil)) pa_nil))))
      (pss_one (ps_set (i := 4) scDue.nd rfl (by first | exact .inl rfl | exact .inr rfl) (pe_op op_add (pv 4) pe_int)))))))))
      (pss_one (ps_ret (pe_ifExp (pt_cmpR op_eq (pv 4) (pe_callB call_len_seq (by rfl) m_len PySem.boot_len (pa_cons (pv 2) pa_nil)) (nomark _)) (pe_callTy call_tuple_of (by rfl) m_tuple (by decide +kernel) (pa_cons (pv 3) pa_nil)) (pv 4)))))))), ?_⟩
    refine ⟨.str text, rfl, ⟨_, rfl⟩, text, blank, rfl, rfl, by decide +kernel, by omega, fun W nW => ?_⟩
    rw [hws]
    have S1 := same_upd (o := .lst (ws.map V.str)) nW
    have eW : (upd H W (.lst (ws.map V.str))) W = some (.lst (ws.map V.str)) := upd_same
    generalize (upd H W (.lst (ws.map V.str))) = H1 at *
    refine ⟨Nat.zero_le _, fun F nF => ?_⟩
    have nF0 : H F = none := S1.free nF
    have WF : W ≠ F := fun z => by rw [← z, eW] at nF; cases nF
    have eW2 : (upd H1 F (.lst [])) W = some (.lst (ws.map V.str)) := by rw [upd_ne WF]; exact eW
    have eF2 : (upd H1 F (.lst [])) F = some (.lst []) := upd_same
    have S2 := S1.trans (same_upd (o := .lst []) nF)
    generalize (upd H1 F (.lst [])) = H2 at *
    refine ⟨.ref b, rfl, b, bd, rfl, .inl (.inl (S2 _ _ hB)), ok, (bd.cells : Int), rfl, by omega, by omega, ?_⟩
    have a0 : ahead bd.wide 0 = 0 := ahead_zero _
    refine for_range (lo := 0) (n := ((bd.cells : Nat) : Int).toNat) (fun c σ H' => ∃ y5 y6 as, σ = [some (.ref b), some (.str text), some (.ref W), some (.ref F), some (.int ((ahead bd.wide c : Nat) : Int)), y5, y6] ∧ H' W = some (.lst (ws.map V.str)) ∧ H' F = some (.lst (as.map V.ref)) ∧ Things H' as (thingsIn (ws.take (ahead bd.wide c))) ∧ Good bd ws (ahead bd.wide c) ∧ as.length ≤ c ∧ Same H H')
      ⟨none, none, [], by rw [a0]; rfl, eW2, eF2, by rw [a0]; trivial, by rw [a0]; exact ⟨Nat.zero_le _, Nat.zero_le _, fun j z h => absurd h (Nat.not_lt_zero _)⟩, Nat.le_refl _, S2⟩ (fun c σ H' hc hI => ?_) (fun σ H' hI => ?_)
    · obtain ⟨y5, y6, as, rfl, g1, g2, g3, g4, g5, g6⟩ := hI
      have hc' : c < bd.cells := by omega
      have hed := Bd.edge_is ok hc'
      have hpl : pos bd.wide c < dueMany bd := pos_lt hp.2 (by rw [← hcells]; exact hc')
      have hB2 : SqT K H' b bd.vals := .inl (.inl (g6 _ _ hB))
      -- edge
      refine ⟨fun σ2 H3 => σ2 = [some (.ref b), some (.str text), some (.ref W), some (.ref F), some (.int ((ahead bd.wide c : Nat) : Int)), some (.int (0 + (c : Int))), some (.bl (edgeN bd.wide c))] ∧ H' = H3, ?_, ?_⟩
      · have fin : ∀ k : Bool, k = edgeN bd.wide c → ([some (.ref b), some (.str text), some (.ref W), some (.ref F), some (.int ((ahead bd.wide c : Nat) : Int)), some (.int (0 + (c : Int))), some (.bl k)] : L2.St) = [some (.ref b), some (.str text), some (.ref W), some (.ref F), some (.int ((ahead bd.wide c : Nat) : Int)), some (.int (0 + (c : Int))), some (.bl (edgeN bd.wide c))] := fun k e => by rw [e]
        cases bd with
        | row n =>
          exact ⟨.ref b, rfl, b, _, 0, _, rfl, rfl, hB2, atI_nat (j := 0) rfl, rfl, _, rfl, iteN (by decide +kernel) ⟨fin false (by rw [← hed]; rfl), rfl⟩⟩
        | ring n =>
          exact ⟨.ref b, rfl, b, _, 0, _, rfl, rfl, hB2, atI_nat (j := 0) rfl, rfl, _, rfl, iteN (by decide +kernel) ⟨fin false (by rw [← hed]; rfl), rfl⟩⟩
        | floor h w =>
          refine ⟨.ref b, rfl, b, _, 0, _, rfl, rfl, hB2, atI_nat (j := 0) rfl, rfl, _, rfl, iteP (by decide +kernel) ?_⟩
          refine ⟨.int (0 + (c : Int)), rfl, 0 + (c : Int), 0, rfl, rfl, _, rfl, ite2 (fun e => ?_) (fun e => ?_)⟩
          · have c0 : 0 < c := by have := of_decide_eq_true e; omega
            refine ⟨.int (0 + (c : Int)), rfl, .ref b, rfl, b, _, 2, .int w, rfl, rfl, hB2, atI_nat (j := 2) rfl, 0 + (c : Int), w, rfl, rfl, (by have : 1 ≤ w := hp.2; omega), rfl, ⟨fin _ ?_, rfl⟩⟩
            have em : (0 + (c : Int)) % (w : Int) = ((c % w : Nat) : Int) := by rw [Int.zero_add, Int.natCast_emod]
            show decide (V.int ((0 + (c : Int)) % (w : Int)) = V.int 0) = (decide (0 < c) && decide (c % w = 0))
            rw [em, decide_eq_true c0, Bool.true_and]
            by_cases hm : c % w = 0
            · rw [hm]; rfl
            · rw [decide_eq_false hm, decide_eq_false fun x => hm (by have := V.int.inj x; omega)]
          · refine ⟨fin false ?_, rfl⟩
            have c0 : ¬ 0 < c := fun h => e (decide_eq_true (by omega))
            show false = (decide (0 < c) && _)
            rw [decide_eq_false c0, Bool.false_and]
      · rintro σ2 H3 ⟨rfl, rfl⟩
        -- if edge and (at == len(words) or words[at] != '/')
        refine ⟨fun σ2 H3 => σ2 = [some (.ref b), some (.str text), some (.ref W), some (.ref F), some (.int ((ahead bd.wide c : Nat) : Int)), some (.int (0 + (c : Int))), some (.bl (edgeN bd.wide c))] ∧ H' = H3 ∧ (edgeN bd.wide c = true → ws[ahead bd.wide c]? = some slash), ?_, ?_⟩
        · refine ⟨.bl (edgeN bd.wide c), rfl, _, rfl, ?_⟩
          cases he : edgeN bd.wide c with
          | false => exact iteF ⟨by first | rfl | rw [he], rfl, fun h => by cases h⟩
          | true =>
            obtain ⟨ep1, ep2, ep3⟩ := edge_pos hp.2 he
            have eah : ahead bd.wide c = pos bd.wide c - 1 := by unfold ahead; rw [he, if_pos rfl]
            refine iteT ?_
            refine ⟨.int ((ahead bd.wide c : Nat) : Int), rfl, .ref W, rfl, W, _, rfl, .inl (.inl (.inl g1)), rfl, _, rfl, ite2 (fun e => ?_) (fun e => ?_)⟩
            · have e1 := V.int.inj (of_decide_eq_true e)
              rw [List.length_map] at e1
              have e2 : ahead bd.wide c = ws.length := by omega
              refine ⟨.int ((ahead bd.wide c : Nat) : Int), rfl, ?_⟩
              rw [e2] at g4
              rw [e2]
              exact qb _ (g4.lacks (by omega)) _ g6
            · have hne : ahead bd.wide c ≠ ws.length := fun h => e (decide_eq_true (by rw [List.length_map, h]))
              have hlt : ahead bd.wide c < ws.length := by have := g4.1; omega
              obtain ⟨z, hz⟩ : ∃ z, ws[ahead bd.wide c]? = some z := ⟨_, List.getElem?_eq_getElem hlt⟩
              refine ⟨.ref W, rfl, .int ((ahead bd.wide c : Nat) : Int), rfl, W, _, ((ahead bd.wide c : Nat) : Int), .str z, rfl, rfl, .inl (.inl g1), atI_nat (by rw [List.getElem?_map, hz]; rfl), rfl, _, rfl, ?_⟩
              by_cases hs : z = slash
              · subst hs
                exact iteN (by decide +kernel) ⟨by first | rfl | rw [he], rfl, fun _ => hz⟩
              · refine iteP ?_ ?_
                · show (!decide (V.str z = V.str slash)) = true
                  rw [decide_eq_false fun x => hs (V.str.inj x)]; rfl
                · refine ⟨.int ((ahead bd.wide c : Nat) : Int), rfl, ?_⟩
                  refine qb _ (g4.bad hz (.inr ?_)) _ g6
                  unfold isDue
                  rw [eah, ep2, if_pos rfl]
                  exact decide_eq_false hs
        · rintro σ2 H3 ⟨rfl, rfl, hsl2⟩
          -- at = at + int(edge)
          refine ⟨.int ((ahead bd.wide c : Nat) : Int), rfl, .bl (edgeN bd.wide c), rfl, .inr ⟨_, rfl, _, _, rfl, rfl, ?_⟩⟩
          have eat : ((ahead bd.wide c : Nat) : Int) + (if edgeN bd.wide c = true then 1 else 0) = ((pos bd.wide c : Nat) : Int) := by
            unfold ahead
            cases he : edgeN bd.wide c with
            | false => rw [if_neg (by decide), if_neg (by decide)]; simp
            | true =>
              have := (edge_pos hp.2 he).1
              rw [if_pos rfl, if_pos rfl]
              omega
          have gpos : Good bd ws (pos bd.wide c) := by
            cases he : edgeN bd.wide c with
            | false =>
              have : ahead bd.wide c = pos bd.wide c := by unfold ahead; rw [he, if_neg (by decide)]; rfl
              rw [← this]; exact g4
            | true =>
              obtain ⟨ep1, ep2, ep3⟩ := edge_pos hp.2 he
              have eah : ahead bd.wide c = pos bd.wide c - 1 := by unfold ahead; rw [he, if_pos rfl]
              have := g4.next (by omega) (hsl2 he) (by
                unfold isDue
                rw [eah, ep2, if_pos rfl]
                exact decide_eq_true rfl)
              rw [eah, Nat.sub_add_cancel ep1] at this
              exact this
          have tpos : Things H' as (thingsIn (ws.take (pos bd.wide c))) := by
            cases he : edgeN bd.wide c with
            | false =>
              have : ahead bd.wide c = pos bd.wide c := by unfold ahead; rw [he, if_neg (by decide)]; rfl
              rw [← this]; exact g3
            | true =>
              obtain ⟨ep1, ep2, ep3⟩ := edge_pos hp.2 he
              have eah : ahead bd.wide c + 1 = pos bd.wide c := by unfold ahead; rw [he, if_pos rfl]; omega
              rw [← eah, things_slash (hsl2 he)]
              exact g3
          have pm := pos_mod (c := c) hp.2
          have cm := Nat.mod_lt c hp.2
          -- if at == len(words) or _law_thing(words[at]) is None
          refine ⟨fun σ2 H3 => σ2 = [some (.ref b), some (.str text), some (.ref W), some (.ref F), some (.int ((pos bd.wide c : Nat) : Int)), some (.int (0 + (c : Int))), some (.bl (edgeN bd.wide c))] ∧ Same H' H3 ∧ ∃ z, ws[pos bd.wide c]? = some z ∧ isName (thingOf z).1 = true, ?_, ?_⟩
          · have sl4 : some (some (V.int (((ahead bd.wide c : Nat) : Int) + (if edgeN bd.wide c = true then 1 else 0)))) = some (some (V.int ((pos bd.wide c : Nat) : Int))) := by rw [eat]
            refine ⟨.int ((pos bd.wide c : Nat) : Int), sl4, .ref W, rfl, W, _, rfl, .inl (.inl (.inl g1)), rfl, _, rfl, ite2 (fun e => ?_) (fun e => ?_)⟩
            · have e1 := V.int.inj (of_decide_eq_true e)
              rw [List.length_map] at e1
              have e2 : pos bd.wide c = ws.length := by omega
              refine ⟨.int ((pos bd.wide c : Nat) : Int), sl4, ?_⟩
              rw [e2] at gpos
              rw [e2]
              exact qb _ (gpos.lacks (by omega)) _ g6
            · have hne : pos bd.wide c ≠ ws.length := fun h => e (decide_eq_true (by rw [List.length_map, h]))
              have hlt : pos bd.wide c < ws.length := by have := gpos.1; omega
              obtain ⟨z, hz⟩ : ∃ z, ws[pos bd.wide c]? = some z := ⟨_, List.getElem?_eq_getElem hlt⟩
              have hzm := List.mem_of_getElem? hz
              have hzl := hsl.1 z hzm
              have hdue : isDue z (pos bd.wide c) bd.wide = isName (thingOf z).1 := by
                unfold isDue
                rw [if_neg (by rw [pm]; omega)]
              refine ⟨.ref W, rfl, .int ((pos bd.wide c : Nat) : Int), sl4, W, _, ((pos bd.wide c : Nat) : Int), .str z, rfl, rfl, .inl (.inl g1), atI_nat (by rw [List.getElem?_map, hz]; rfl), ?_⟩
              refine ⟨z, rfl, by omega, hasc z hzm, fun hn H3 t s3 nt ht => ?_, fun hn H3 s3 => ?_⟩
              · refine ⟨rfl, _, rfl, iteN (decide_eq_false fun x => V.noConfusion x) ⟨?_, s3, z, hz, hn⟩⟩
                exact congrArg (fun i => [some (V.ref b), some (V.str text), some (V.ref W), some (V.ref F), some (V.int i), some (V.int (0 + (c : Int))), some (V.bl (edgeN bd.wide c))]) eat
              · refine ⟨rfl, _, rfl, iteP (by decide) ?_⟩
                refine ⟨.int ((pos bd.wide c : Nat) : Int), sl4, ?_⟩
                exact qb _ (gpos.bad hz (.inr (by rw [hdue]; exact hn))) _ (g6.trans s3)
          · rintro σ2 H3 ⟨rfl, s3, z, hz, hn⟩
            have hzm := List.mem_of_getElem? hz
            have hzl := hsl.1 z hzm
            have hdue : isDue z (pos bd.wide c) bd.wide = isName (thingOf z).1 := by
              unfold isDue
              rw [if_neg (by rw [pm]; omega)]
            -- found.append(_law_thing(words[at]))
            refine ⟨.ref F, rfl, .inl ⟨rfl, _, .inl (.inl (s3 _ _ g2))⟩, .ref W, rfl, .int ((pos bd.wide c : Nat) : Int), rfl, W, _, ((pos bd.wide c : Nat) : Int), .str z, rfl, rfl, .inl (.inl (s3 _ _ g1)), atI_nat (by rw [List.getElem?_map, hz]; rfl), ?_⟩
            refine ⟨z, rfl, by omega, hasc z hzm, fun _ H4 t s4 nt ht => ?_, fun h => by rw [hn] at h; cases h⟩
            have S4 := s3.trans s4
            refine ⟨F, _, _, rfl, rfl, S4 _ _ g2, ?_, ?_⟩
            · rw [List.length_map]
              exact Nat.lt_of_lt_of_le (show as.length < 30000 by omega) hsz
            · refine ⟨.int ((pos bd.wide c : Nat) : Int), rfl, _, _, rfl, rfl, ?_⟩
              have eas : ahead bd.wide (c + 1) = pos bd.wide c + 1 := ahead_succ hp.2
              refine ⟨some (.int (0 + (c : Int))), some (.bl (edgeN bd.wide c)), as ++ [t], ?_, ?_, ?_, ?_, ?_, ?_, ?_⟩
              · rw [eas]; rfl
              · rw [upd_ne WF]; exact S4 _ _ g1
              · rw [upd_same, List.map_append]; rfl
              · rw [eas, things_more hz (name_slash hn)]
                exact (Things.snoc ht (tpos.same S4)).but But.upd ⟨_, S4 _ _ g2⟩
              · rw [eas]
                exact gpos.next hpl hz (by rw [hdue]; exact hn)
              · rw [List.length_append]
                exact Nat.succ_le_succ g5
              · exact same_new (g6.trans S4) nF0
    · obtain ⟨y5, y6, as, rfl, g1, g2, g3, g4, g5, g6⟩ := hI
      have en : (((bd.cells : Nat) : Int)).toNat = bd.cells := Int.toNat_natCast _
      have eend : ahead bd.wide bd.cells = dueMany bd := ahead_end hp.2 hp.1
      rw [en] at g3 g4
      rw [eend] at g3 g4
      have sl4 : some (some (V.int ((ahead bd.wide (((bd.cells : Nat) : Int)).toNat : Nat) : Int))) = some (some (V.int ((dueMany bd : Nat) : Int))) := by rw [en, eend]
      refine ⟨.int ((dueMany bd : Nat) : Int), sl4, .ref W, rfl, W, _, rfl, .inl (.inl (.inl g1)), rfl, _, rfl, ite2 (fun e => ?_) (fun e => ?_)⟩
      · have e1 := V.int.inj (of_decide_eq_true e)
        rw [List.length_map] at e1
        have e2 : dueMany bd = ws.length := by omega
        refine ⟨.ref F, rfl, F, _, rfl, .inl ⟨.inl (.inl g2), fun t nt => ?_⟩⟩
        rw [e2] at g4
        rw [e2, List.take_length] at g3
        exact qg (g4.whole e2.symm) _ t (g6.trans (same_upd nt)) (g6.free nt) ⟨as, upd_same, g3.same (same_upd nt)⟩
      · have hne : dueMany bd ≠ ws.length := fun h => e (decide_eq_true (by rw [List.length_map, h]))
        have hlt : dueMany bd < ws.length := by have := g4.1; omega
        obtain ⟨z, hz⟩ : ∃ z, ws[dueMany bd]? = some z := ⟨_, List.getElem?_eq_getElem hlt⟩
        refine ⟨.int ((dueMany bd : Nat) : Int), sl4, ?_⟩
        exact qb _ (g4.bad hz (.inl (Nat.le_refl _))) _ g6
end
end L_k03

namespace L_k03
open PySem PySem.Spec PyProof.Rows L2 Lot
abbrev sWords : Stmt := topS 33
theorem scWords : FnScope ["board", "standing", "words", "cell", "name", "face"] ["board", "standing"] (defScope sWords) := ⟨rfl, rfl, rfl, by decide +kernel, rfl, by decide +kernel, by decide +kernel⟩
section
variable {P : Program} {w : World} {K : PySem.W.Frag} {mg : Str → Option Value} {base : Heap}
def WOk (z : Str) : Prop := z.length ≤ 10 ∧ AscS z
theorem face_at {r : Nat} (h : r < 2) : ∃ z : Str, atI ([.str (Str.ofString ""), .str (Str.ofString "-")] : List V) (r : Int) = some (.str z) ∧ z.length ≤ 1 ∧ AscS z := by
  have h2 : r = 0 ∨ r = 1 := by omega
  rcases h2 with rfl | rfl
  · exact ⟨Str.ofString "", atI_nat (j := 0) rfl, by decide +kernel, by unfold AscS; decide +kernel⟩
  · exact ⟨Str.ofString "-", atI_nat (j := 1) rfl, by decide +kernel, by unfold AscS; decide +kernel⟩
theorem asc_name {z : Str} (h : NameOk z) : AscS z := fun c hc => by
  have := h.2.2 c hc
  omega
theorem slash_ok : WOk slash := ⟨by decide +kernel, by unfold AscS; decide +kernel⟩
theorem snoc_ok {ws : List Str} {z : Str} (h : ∀ y ∈ ws, WOk y) (hz : WOk z) : ∀ y ∈ ws ++ [z], WOk y := fun y hy => by
  rcases List.mem_append.mp hy with hy | hy
  · exact h y hy
  · rw [List.mem_singleton.mp hy]; exact hz
theorem map_snoc (ws : List Str) (z : Str) : (some (HO.lst (ws.map V.str ++ [V.str z])) : Option HO) = some (.lst ((ws ++ [z]).map V.str)) := by rw [List.map_append]; rfl
/-- _law_words(board, standing): the words of a text, all short and of ASCII signs -/
def spWords : Sp := fun vs H Q _ => ∃ (b t : Addr) (bd : Bd) (ths : List (Str × Nat)), vs = [.ref b, .ref t] ∧ H b = some (.tup bd.vals) ∧ bd.Ok 36 ∧ StandAt H t ths ∧ ths.length = bd.cells ∧ (∀ th ∈ ths, ThOk th) ∧
  ∀ H' W (ws : List Str), Same H H' → H W = none → H' W = some (.lst (ws.map V.str)) → 1 ≤ ws.length → ws.length ≤ 72 → (∀ z ∈ ws, WOk z) → Q (.ref W) H'
theorem ok_words {f : Addr} {fd : FuncData} (F : Fun K "_law_words" "_law_words" sWords f fd) (m_range : mg "range" = none) (m_len : mg "len" = none) : FnOk P w K mg base CX0 1 f fd ["board", "standing"] spWords := by
  refine F.ok scWords (fun vs H Q E h => ?_) (fun cdv A outer s H vs Q E hr h => ?_)
  · obtain ⟨b, t, bd, ths, rfl, _⟩ := h
    rfl
  · obtain ⟨b, t, bd, ths, rfl, hB, ok, ⟨as, hT, hTh⟩, hlen, hok, q⟩ := h
    have hc := Bd.cells_le ok
    have hal := hTh.length
    have hml : (as.map V.ref).length = as.length := List.length_map _
    have hsz : 30000 ≤ sizeLine := by decide
    refine ⟨_, (pss_cons (ps_set (i := 2) scWords.nd rfl (by first | exact .inl rfl | exact .inr rfl) (pe_lst pa_nil))
      (pss_cons (ps_for PassesOwn.never rfl (pi_range1 (by rfl) m_range (pa_cons (pe_callB call_len_seq (by rfl) m_len PySem.boot_len (pa_cons (pv 1) pa_nil)) pa_nil)) (pg_name (i := 3) scWords.nd rfl (by first | exact .inl rfl | exact .inr rfl)) (C8.pss_cut (ps_if (PW.pt (pw_and (pt_cmpR op_eq (pe_ix ix_tup (pv 0) pe_int (fun _ _ => rfl)) pe_str (nomark _)) (pw_and (pt_cmpR op_gt (pv 3) pe_int (nomark _)) (pw_and1 (pt_cmpR op_eq (pe_op op_mod (pv 3) (pe_ix ix_tup (pv 0) pe_int (fun _ _ => rfl))) pe_int (nomark _)))))) (pss_one (ps_expr (pe_bm PySem.F.plainAttrs_list PySem.F.slot_list_append PySem.F.type_list_append mt_append (pv 2) (pa_cons pe_str pa_nil)))) pss_nil)
      (pss_cons (ps_asg (pe_ix ix_tup (pv 1) (pv 3) (fun _ _ => rfl)) (pg_tup (by rfl) (pgs_cons (pg_name (i := 4) scWords.nd rfl (by first | exact .inl rfl | exact .inr rfl)) (pgs_cons (pg_name (i := 5) scWords.nd rfl (by first | exact .inl rfl | exact .inr rfl)) pgs_nil))))
      (pss_one (ps_expr (pe_bm PySem.F.plainAttrs_list PySem.F.slot_list_append PySem.F.type_list_append mt_append (pv 2) (pa_cons (pe_op op_add_str (pe_ix ix_list (pe_lst (pa_cons pe_str (pa_cons pe_str pa_nil))) (pv 5) (fun _ _ => rfl)) (pv 4)) pa_nil)))))))
      (pss_one (ps_ret (pv 2))))), ?_⟩
    refine ⟨Nat.zero_le _, fun W nW => ?_⟩
    have eW : (upd H W (.lst [])) W = some (.lst []) := upd_same
    have S1 := same_upd (o := .lst []) nW
    generalize (upd H W (.lst [])) = H1 at *
    refine ⟨.ref t, rfl, t, as.map V.ref, rfl, .inr (.inl (.inl (S1 _ _ hT))), ((as.map V.ref).length : Nat), rfl, by omega, by omega, ?_⟩
    refine for_range (lo := 0) (n := (((as.map V.ref).length : Nat) : Int).toNat) (fun c σ H' => ∃ (y3 y4 y5 : Option V) (ws : List Str), σ = [some (.ref b), some (.ref t), some (.ref W), y3, y4, y5] ∧ H' W = some (.lst (ws.map V.str)) ∧ (∀ z ∈ ws, WOk z) ∧ c ≤ ws.length ∧ ws.length ≤ 2 * c ∧ Same H H')
      ⟨none, none, none, [], rfl, eW, (fun z hz => nomatch hz), Nat.le_refl _, Nat.le_refl _, S1⟩ (fun c σ H' hc1 hI => ?_) (fun σ H' hI => ?_)
    · obtain ⟨y3, y4, y5, ws, rfl, g1, g2, g3, g4, g5⟩ := hI
      have hc' : c < as.length := by omega
      have hB2 : SqT K H' b bd.vals := .inl (.inl (g5 _ _ hB))
      refine ⟨fun σ2 H3 => ∃ ws2 : List Str, σ2 = [some (.ref b), some (.ref t), some (.ref W), some (.int (0 + (c : Int))), y4, y5] ∧ H3 W = some (.lst (ws2.map V.str)) ∧ (∀ z ∈ ws2, WOk z) ∧ c ≤ ws2.length ∧ ws2.length ≤ 2 * c + 1 ∧ Same H H3, ?_, ?_⟩
      · have keep : ∃ ws2 : List Str, ([some (.ref b), some (.ref t), some (.ref W), some (.int (0 + (c : Int))), y4, y5] : L2.St) = [some (.ref b), some (.ref t), some (.ref W), some (.int (0 + (c : Int))), y4, y5] ∧ H' W = some (.lst (ws2.map V.str)) ∧ (∀ z ∈ ws2, WOk z) ∧ c ≤ ws2.length ∧ ws2.length ≤ 2 * c + 1 ∧ Same H H' := ⟨ws, rfl, g1, g2, g3, by omega, g5⟩
        cases bd with
        | row n => exact ⟨.ref b, rfl, b, _, 0, _, rfl, rfl, hB2, atI_nat (j := 0) rfl, rfl, _, rfl, iteN (by decide +kernel) keep⟩
        | ring n => exact ⟨.ref b, rfl, b, _, 0, _, rfl, rfl, hB2, atI_nat (j := 0) rfl, rfl, _, rfl, iteN (by decide +kernel) keep⟩
        | floor h w =>
          refine ⟨.ref b, rfl, b, _, 0, _, rfl, rfl, hB2, atI_nat (j := 0) rfl, rfl, _, rfl, iteP (by decide +kernel) ?_⟩
          refine ⟨.int (0 + (c : Int)), rfl, 0 + (c : Int), 0, rfl, rfl, _, rfl, ite2 (fun e => ?_) (fun e => keep)⟩
          refine ⟨.int (0 + (c : Int)), rfl, .ref b, rfl, b, _, 2, .int w, rfl, rfl, hB2, atI_nat (j := 2) rfl, 0 + (c : Int), w, rfl, rfl, (by have : 1 ≤ w := ok.2.1; omega), rfl, _, rfl, ite2 (fun e => ?_) (fun e => keep)⟩
          refine ⟨.ref W, rfl, .inl ⟨rfl, _, .inl (.inl g1)⟩, W, _, _, rfl, rfl, g1, ?_, ws ++ [slash], rfl, ?_, snoc_ok g2 slash_ok, ?_, ?_, same_new g5 nW⟩
          · rw [List.length_map]; omega
          · rw [upd_same]; exact map_snoc ws slash
          · rw [List.length_append, List.length_singleton]; omega
          · rw [List.length_append, List.length_singleton]; omega
      · rintro σ2 H3 ⟨ws2, rfl, k1, k2, k3, k4, k5⟩
        obtain ⟨th, hth⟩ : ∃ th, ths[c]? = some th := ⟨_, List.getElem?_eq_getElem (by omega)⟩
        have htk := hok th (List.mem_of_getElem? hth)
        obtain ⟨ad, had, hadt⟩ := hTh.get hth
        have hmap : (as.map V.ref)[c]? = some (.ref ad) := by rw [List.getElem?_map, had]; rfl
        refine ⟨.ref t, rfl, .int (0 + (c : Int)), rfl, t, _, 0 + (c : Int), .ref ad, rfl, rfl, .inl (.inl (k5 _ _ hT)), (by rw [Int.zero_add]; exact atI_nat hmap), ?_⟩
        refine ⟨ad, thing th, rfl, .inl (.inl (k5 _ _ hadt)), rfl, .str th.1, [.int th.2], rfl, .int th.2, [], rfl, rfl, ?_⟩
        refine ⟨.ref W, rfl, .inl ⟨rfl, _, .inl (.inl k1)⟩, (by show 2 ≤ sizeLine; decide), fun M nM => ?_⟩
        have eM : (upd H3 M (.lst [.str (Str.ofString ""), .str (Str.ofString "-")])) M = some (.lst [.str (Str.ofString ""), .str (Str.ofString "-")]) := upd_same
        have S10 := same_upd (o := .lst [.str (Str.ofString ""), .str (Str.ofString "-")]) nM
        generalize (upd H3 M (.lst [.str (Str.ofString ""), .str (Str.ofString "-")])) = H4 at *
        obtain ⟨z1, hz1, hz2, hz3⟩ := face_at htk.2
        have hn4 := htk.1.2.1
        refine ⟨.int th.2, rfl, M, _, (th.2 : Int), .str z1, rfl, rfl, .inl (.inl eM), hz1, .str th.1, rfl, z1, th.1, rfl, rfl, by omega, ?_⟩
        refine ⟨W, _, _, rfl, rfl, S10 _ _ k1, ?_, some (.int (0 + (c : Int))), some (.str th.1), some (.int th.2), ws2 ++ [z1 ++ th.1], rfl, ?_, snoc_ok k2 ⟨by rw [str_app_len]; omega, hz3.app (asc_name htk.1)⟩, ?_, ?_, same_new (k5.trans S10) nW⟩
        · rw [List.length_map]; omega
        · rw [upd_same]; exact map_snoc ws2 _
        · rw [List.length_append, List.length_singleton]; omega
        · rw [List.length_append, List.length_singleton]; omega
    · obtain ⟨y3, y4, y5, ws, rfl, g1, g2, g3, g4, g5⟩ := hI
      have en : (((as.map V.ref).length : Nat) : Int).toNat = bd.cells := by rw [Int.toNat_natCast]; omega
      rw [en] at g3 g4
      exact ⟨.ref W, rfl, q _ W ws g5 nW g1 (by omega) (by omega) g2⟩
end
end L_k03

namespace L_k03
open PySem PySem.Spec PyProof.Rows L2 Lot
abbrev sSpoilt : Stmt := topS 36
theorem scSpoilt : FnScope ["pot", "words", "at", "way", "odd"] ["pot", "words"] (defScope sSpoilt) := ⟨rfl, rfl, rfl, by decide +kernel, rfl, by decide +kernel, by decide +kernel⟩
section
variable {P : Program} {w : World} {K : PySem.W.Frag} {mg : Str → Option Value} {base : Heap}
def LOk (B : Nat) (ys : List Str) : Prop := ∀ z ∈ ys, z.length ≤ B ∧ AscS z
theorem LOk.cut {B : Nat} {ys : List Str} (h : LOk B ys) (lo hi : Option Int) : LOk B (cutL ys lo hi) := fun z hz => h z (cutL_mem hz)
theorem LOk.app {B : Nat} {xs ys : List Str} (h : LOk B xs) (g : LOk B ys) : LOk B (xs ++ ys) := fun z hz => (List.mem_append.mp hz).elim (h z) (g z)
theorem LOk.one {B : Nat} {z : Str} (h : z.length ≤ B) (g : AscS z) : LOk B [z] := fun y hy => by rw [List.mem_singleton.mp hy]; exact ⟨h, g⟩
theorem LOk.mono {B C : Nat} {ys : List Str} (h : LOk B ys) (le : B ≤ C) : LOk C ys := fun z hz => ⟨Nat.le_trans (h z hz).1 le, (h z hz).2⟩
def odds : List Str := [Str.ofString "", Str.ofString "/", Str.ofString "-", Str.ofString "--a", Str.ofString "A", Str.ofString "a1", Str.ofString "abcde", Str.ofString "-abcde", Str.ofString "a-", Str.ofString "//", Str.ofString "zz", Str.ofString "-q", Str.ofString "{", Str.ofString "a\n"]
theorem odds_ok : (odds.all fun z => decide (z.length ≤ 6) && z.cps.toList.all fun c => decide (c < 128)) = true := by decide +kernel
theorem odd_at {r : Nat} (hr : r < 14) : ∃ z : Str, atI (odds.map V.str) (r : Int) = some (.str z) ∧ z.length ≤ 6 ∧ AscS z := by
  have hl : odds.length = 14 := rfl
  obtain ⟨z, hz⟩ : ∃ z, odds[r]? = some z := ⟨_, List.getElem?_eq_getElem (by omega)⟩
  have h := List.all_eq_true.mp odds_ok z (List.mem_of_getElem? hz)
  rw [Bool.and_eq_true] at h
  exact ⟨z, atI_nat (by rw [List.getElem?_map, hz]; rfl), of_decide_eq_true h.1, fun c hc => of_decide_eq_true (List.all_eq_true.mp h.2 c hc)⟩
/-- _law_spoilt(pot, words) -/
def spSpoilt : Sp := fun vs H Q _ => ∃ (p W : Addr) (ws : List Str) (N B : Nat), vs = [.ref p, .ref W] ∧ PotAt H p N ∧ N ≤ 900 ∧ H W = some (.lst (ws.map V.str)) ∧ W ≠ p ∧ 1 ≤ ws.length ∧ ws.length ≤ 200 ∧ LOk B ws ∧ B ≤ 100 ∧
  ∀ H' L (ys : List Str), But p H H' → PotAt H' p (N + 3) → H L = none → H' L = some (.lst (ys.map V.str)) → ys.length ≤ 2 * ws.length + 1 → LOk (B + 6) ys → Q (.ref L) H'
theorem ok_spoilt {f fD : Addr} {fd fdD : FuncData} (F : Fun K "_law_spoilt" "_law_spoilt" sSpoilt f fd) (D__law_dip : Def P w K mg base 1 "_law_dip" ["pot", "many"] spDip fD fdD) (m_len : mg "len" = none) : FnOk P w K mg base CX0 2 f fd ["pot", "words"] spSpoilt := by
  refine F.ok scSpoilt (fun vs H Q E h => ?_) (fun cdv A outer s H vs Q E hr h => ?_)
  · obtain ⟨p, W, ws, N, B, rfl, _⟩ := h
    rfl
  · obtain ⟨p, W, ws, N, B, rfl, hP, hN, hW, Wp, hw1, hw2, hws0, hB, q⟩ := h
    have hsz : 30000 ≤ sizeLine := by decide
    have hws : LOk (B + 6) ws := hws0.mono (by omega)
    refine ⟨_, (pss_cons (ps_set (i := 2) scSpoilt.nd rfl (by first | exact .inl rfl | exact .inr rfl) (pe_call D__law_dip.ok (hr.mono (by decide)) (by rfl) D__law_dip.g D__law_dip.kp D__law_dip.b .nil pass0 (pa_cons (pv 0) (pa_cons (pe_callB call_len_seq (by rfl) m_len PySem.boot_len (pa_cons (pv 1) pa_nil)) pa_nil))))
      (pss_cons (ps_set (i := 3) scSpoilt.nd rfl (by first | exact .inl rfl | exact .inr rfl) (pe_call D__law_dip.ok (hr.mono (by decide)) (by rfl) D__law_dip.g D__law_dip.kp D__law_dip.b .nil pass0 (pa_cons (pv 0) (pa_cons pe_int pa_nil))))
      (pss_cons (ps_set (i := 4) scSpoilt.nd rfl (by first | exact .inl rfl | exact .inr rfl) (pe_ix ix_list (pe_lst (pa_cons pe_str (pa_cons pe_str (pa_cons pe_str (pa_cons pe_str (pa_cons pe_str (pa_cons pe_str (pa_cons pe_str (pa_cons pe_str (pa_cons pe_str (pa_cons pe_str (pa_cons pe_str (pa_cons pe_str (pa_cons pe_str (pa_cons pe_str pa_nil))))))))))))))) (pe_call D__law_dip.ok (hr.mono (by decide)) (by rfl) D__law_dip.g D__law_dip.kp D__law_dip.b .nil pass0 (pa_cons (pv 0) (pa_cons pe_int pa_nil))) (fun _ _ => rfl)))
      (pss_cons (ps_if (pt_cmpR op_eq (pv 3) pe_int (nomark _)) (pss_one (ps_ret (pe_op op_cat (pe_slice sl_list (pv 1) po_none (po_some (pv 2))) (pe_slice sl_list (pv 1) (po_some (pe_op op_add (pv 2) pe_int)) po_none)))) pss_nil)
      (pss_cons (ps_if (pt_cmpR op_eq (pv 3) pe_int (nomark _)) (pss_one (ps_ret (pe_op op_cat (pe_op op_cat (pe_slice sl_list (pv 1) po_none (po_some (pv 2))) (pe_lst (pa_cons (pv 4) pa_nil))) (pe_slice sl_list (pv 1) (po_some (pv 2)) po_none)))) pss_nil)
      (pss_cons (ps_if (pt_cmpR op_eq (pv 3) pe_int (nomark _)) (pss_one (ps_ret (pe_op op_cat (pv 1) (pe_lst (pa_cons (pv 4) pa_nil))))) pss_nil)
      (pss_cons (ps_if (pt_cmpR op_eq (pv 3) pe_int (nomark _)) (pss_one (ps_ret (pe_op op_cat (pe_op op_cat (pe_slice sl_list (pv 1) po_none (po_some (pv 2))) (pe_lst (pa_cons (pe_op op_add_str (pe_ix ix_list (pv 1) (pv 2) (fun _ _ => rfl)) (pv 4)) pa_nil))) (pe_slice sl_list (pv 1) (po_some (pe_op op_add (pv 2) pe_int)) po_none)))) pss_nil)
      (pss_cons (ps_if (pt_cmpR op_eq (pv 3) pe_int (nomark _)) (pss_one (ps_ret (pe_op op_cat (pe_op op_cat (pe_slice sl_list (pv 1) po_none (po_some (pv 2))) (pe_lst (pa_cons (pe_op op_add_str (pv 4) (pe_ix ix_list (pv 1) (pv 2) (fun _ _ => rfl))) pa_nil))) (pe_slice sl_list (pv 1) (po_some (pe_op op_add (pv 2) pe_int)) po_none)))) pss_nil)
      (pss_one (ps_ret (pe_op op_cat (pe_op op_cat (pe_slice sl_list (pv 1) po_none (po_some (pv 2))) (pe_lst (pa_cons (pv 4) pa_nil))) (pe_slice sl_list (pv 1) (po_some (pe_op op_add (pv 2) pe_int)) po_none)))))))))))), ?_⟩
    have hml : (ws.map V.str).length = ws.length := List.length_map _
    refine ⟨.ref p, rfl, .ref W, rfl, W, _, rfl, .inl (.inl (.inl hW)), p, ((ws.map V.str).length : Nat), N, rfl, by omega, by omega, hP, by omega, fun r w1 hr hv1 => ?_⟩
    have P1 : PotAt (upd H p (.lst w1)) p (N + 1) := PotAt.upd hv1
    have B1 : But p H (upd H p (.lst w1)) := But.upd
    generalize (upd H p (.lst w1)) = H1 at *
    refine ⟨.ref p, rfl, p, 6, N + 1, rfl, by decide, by decide, P1, by omega, fun k w2 hk hv2 => ?_⟩
    have P2 : PotAt (upd H1 p (.lst w2)) p (N + 2) := PotAt.upd hv2
    have B2 : But p H (upd H1 p (.lst w2)) := B1.trans But.upd
    generalize (upd H1 p (.lst w2)) = H2 at *
    refine ⟨(by show 14 ≤ sizeLine; decide), fun M nM => ?_⟩
    have Mp : M ≠ p := P2.ne nM
    have eM : (upd H2 M (.lst [.str (Str.ofString ""), .str (Str.ofString "/"), .str (Str.ofString "-"), .str (Str.ofString "--a"), .str (Str.ofString "A"), .str (Str.ofString "a1"), .str (Str.ofString "abcde"), .str (Str.ofString "-abcde"), .str (Str.ofString "a-"), .str (Str.ofString "//"), .str (Str.ofString "zz"), .str (Str.ofString "-q"), .str (Str.ofString "{"), .str (Str.ofString "a\n")])) M = some (.lst (odds.map V.str)) := upd_same
    have P3 : PotAt (upd H2 M (.lst [.str (Str.ofString ""), .str (Str.ofString "/"), .str (Str.ofString "-"), .str (Str.ofString "--a"), .str (Str.ofString "A"), .str (Str.ofString "a1"), .str (Str.ofString "abcde"), .str (Str.ofString "-abcde"), .str (Str.ofString "a-"), .str (Str.ofString "//"), .str (Str.ofString "zz"), .str (Str.ofString "-q"), .str (Str.ofString "{"), .str (Str.ofString "a\n")])) p (N + 2) := P2.same (same_upd nM)
    have B3 : But p H (upd H2 M (.lst [.str (Str.ofString ""), .str (Str.ofString "/"), .str (Str.ofString "-"), .str (Str.ofString "--a"), .str (Str.ofString "A"), .str (Str.ofString "a1"), .str (Str.ofString "abcde"), .str (Str.ofString "-abcde"), .str (Str.ofString "a-"), .str (Str.ofString "//"), .str (Str.ofString "zz"), .str (Str.ofString "-q"), .str (Str.ofString "{"), .str (Str.ofString "a\n")])) := B2.trans (But.of_same (same_upd nM))
    generalize (upd H2 M (.lst [.str (Str.ofString ""), .str (Str.ofString "/"), .str (Str.ofString "-"), .str (Str.ofString "--a"), .str (Str.ofString "A"), .str (Str.ofString "a1"), .str (Str.ofString "abcde"), .str (Str.ofString "-abcde"), .str (Str.ofString "a-"), .str (Str.ofString "//"), .str (Str.ofString "zz"), .str (Str.ofString "-q"), .str (Str.ofString "{"), .str (Str.ofString "a\n")])) = H3 at *
    refine ⟨.ref p, rfl, p, 14, N + 2, rfl, by decide, by decide, P3, by omega, fun o w3 ho hv3 => ?_⟩
    have P5 : PotAt (upd H3 p (.lst w3)) p (N + 3) := PotAt.upd hv3
    have B5 : But p H (upd H3 p (.lst w3)) := B3.trans But.upd
    have eM5 : (upd H3 p (.lst w3)) M = some (.lst (odds.map V.str)) := by rw [upd_ne Mp]; exact eM
    generalize (upd H3 p (.lst w3)) = H5 at *
    obtain ⟨odd, ho1, ho2, ho3⟩ := odd_at (r := o) (by omega)
    refine ⟨M, _, (o : Int), .str odd, rfl, rfl, .inl (.inl eM5), ho1, ?_⟩
    have gW : H5 W = some (.lst (ws.map V.str)) := B5 _ _ Wp hW
    have T5 : Same H5 H5 := Same.refl _
    have fin : ∀ H' L (ys : List Str), Same H5 H' → H5 L = none → H' L = some (.lst (ys.map V.str)) → ys.length ≤ 2 * ws.length + 1 → LOk (B + 6) ys → Q (.ref L) H' := fun H' L ys s n e le ok =>
      q H' L ys (B5.trans (But.of_same s)) (P5.same s) (B5.free (P5.ne n) n) e le ok
    obtain ⟨zz, hzz⟩ : ∃ z, ws[r]? = some z := ⟨_, List.getElem?_eq_getElem (by omega)⟩
    have hzw := hws0 zz (List.mem_of_getElem? hzz)
    have hat : atI (ws.map V.str) (r : Int) = some (.str zz) := atI_nat (by rw [List.getElem?_map, hzz]; rfl)
    have hodd : LOk (B + 6) [odd] := LOk.one (by omega) ho3
    -- way == 0
    refine ⟨.int (k : Int), rfl, rfl, _, rfl, ite2 (fun e => ?_) (fun e0 => ?_)⟩
    · skip
      refine ⟨.ref W, rfl, .int (r : Int), rfl, (r : Int), rfl, W, _, rfl, .inl (.inl (T5 _ _ gW)), fun q6 nq6 => ?_⟩
      have S6 := same_upd (o := .lst (cutV (ws.map V.str) none (some (r : Int)))) nq6
      have T6 := T5.trans S6
      have f6 : (upd H5 q6 (.lst (cutV (ws.map V.str) none (some (r : Int))))) q6 = some (.lst ((cutL ws none (some (r : Int))).map V.str)) := by rw [upd_same, cutV_map]
      generalize (upd H5 q6 (.lst (cutV (ws.map V.str) none (some (r : Int))))) = H6 at *
      have k6 := cutL_len ws none (some (r : Int))
      refine ⟨.ref W, rfl, .int (r : Int), rfl, (r : Int), 1, rfl, rfl, _, rfl, W, _, rfl, .inl (.inl (T6 _ _ gW)), fun q7 nq7 => ?_⟩
      have S7 := same_upd (o := .lst (cutV (ws.map V.str) (some ((r : Int) + 1)) none)) nq7
      have T7 := T6.trans S7
      have f7 : (upd H6 q7 (.lst (cutV (ws.map V.str) (some ((r : Int) + 1)) none))) q7 = some (.lst ((cutL ws (some ((r : Int) + 1)) none).map V.str)) := by rw [upd_same, cutV_map]
      generalize (upd H6 q7 (.lst (cutV (ws.map V.str) (some ((r : Int) + 1)) none))) = H7 at *
      have k7 := cutL_len ws (some ((r : Int) + 1)) none
      refine ⟨q6, q7, _, _, rfl, rfl, S7 _ _ f6, f7, by rw [List.length_map, List.length_map]; (try simp only [List.length_append, List.length_singleton]); omega, fun q8 nq8 => ?_⟩
      rw [← List.map_append]
      have S8 := same_upd (o := .lst (((cutL ws none (some (r : Int))) ++ (cutL ws (some ((r : Int) + 1)) none)).map V.str)) nq8
      have T8 := T7.trans S8
      have f8 : (upd H7 q8 (.lst (((cutL ws none (some (r : Int))) ++ (cutL ws (some ((r : Int) + 1)) none)).map V.str))) q8 = some (.lst (((cutL ws none (some (r : Int))) ++ (cutL ws (some ((r : Int) + 1)) none)).map V.str)) := upd_same
      generalize (upd H7 q8 (.lst (((cutL ws none (some (r : Int))) ++ (cutL ws (some ((r : Int) + 1)) none)).map V.str))) = H8 at *
      refine fin _ _ _ T8 (T7.free nq8) f8 ?_ ((hws.cut _ _).app (hws.cut _ _))
      try simp only [List.length_append]
      omega
    -- way == 1
    refine ⟨.int (k : Int), rfl, rfl, _, rfl, ite2 (fun e => ?_) (fun e1 => ?_)⟩
    · skip
      refine ⟨.ref W, rfl, .int (r : Int), rfl, (r : Int), rfl, W, _, rfl, .inl (.inl (T5 _ _ gW)), fun q6 nq6 => ?_⟩
      have S6 := same_upd (o := .lst (cutV (ws.map V.str) none (some (r : Int)))) nq6
      have T6 := T5.trans S6
      have f6 : (upd H5 q6 (.lst (cutV (ws.map V.str) none (some (r : Int))))) q6 = some (.lst ((cutL ws none (some (r : Int))).map V.str)) := by rw [upd_same, cutV_map]
      generalize (upd H5 q6 (.lst (cutV (ws.map V.str) none (some (r : Int))))) = H6 at *
      have k6 := cutL_len ws none (some (r : Int))
      refine ⟨.str odd, rfl, ?_⟩
      refine ⟨(by show 1 ≤ sizeLine; decide), fun q7 nq7 => ?_⟩
      have S7 := same_upd (o := .lst [.str (odd)]) nq7
      have T7 := T6.trans S7
      have f7 : (upd H6 q7 (.lst [.str (odd)])) q7 = some (.lst ([odd].map V.str)) := upd_same
      generalize (upd H6 q7 (.lst [.str (odd)])) = H7 at *
      refine ⟨q6, q7, _, _, rfl, rfl, S7 _ _ f6, f7, by rw [List.length_map, List.length_map]; (try simp only [List.length_append, List.length_singleton]); omega, fun q8 nq8 => ?_⟩
      rw [← List.map_append]
      have S8 := same_upd (o := .lst (((cutL ws none (some (r : Int))) ++ ([odd])).map V.str)) nq8
      have T8 := T7.trans S8
      have f8 : (upd H7 q8 (.lst (((cutL ws none (some (r : Int))) ++ ([odd])).map V.str))) q8 = some (.lst (((cutL ws none (some (r : Int))) ++ ([odd])).map V.str)) := upd_same
      generalize (upd H7 q8 (.lst (((cutL ws none (some (r : Int))) ++ ([odd])).map V.str))) = H8 at *
      refine ⟨.ref W, rfl, .int (r : Int), rfl, (r : Int), rfl, W, _, rfl, .inl (.inl (T8 _ _ gW)), fun q9 nq9 => ?_⟩
      have S9 := same_upd (o := .lst (cutV (ws.map V.str) (some (r : Int)) none)) nq9
      have T9 := T8.trans S9
      have f9 : (upd H8 q9 (.lst (cutV (ws.map V.str) (some (r : Int)) none))) q9 = some (.lst ((cutL ws (some (r : Int)) none).map V.str)) := by rw [upd_same, cutV_map]
      generalize (upd H8 q9 (.lst (cutV (ws.map V.str) (some (r : Int)) none))) = H9 at *
      have k9 := cutL_len ws (some (r : Int)) none
      refine ⟨q8, q9, _, _, rfl, rfl, S9 _ _ f8, f9, by rw [List.length_map, List.length_map]; (try simp only [List.length_append, List.length_singleton]); omega, fun q10 nq10 => ?_⟩
      rw [← List.map_append]
      have S10 := same_upd (o := .lst (((cutL ws none (some (r : Int)) ++ [odd]) ++ (cutL ws (some (r : Int)) none)).map V.str)) nq10
      have T10 := T9.trans S10
      have f10 : (upd H9 q10 (.lst (((cutL ws none (some (r : Int)) ++ [odd]) ++ (cutL ws (some (r : Int)) none)).map V.str))) q10 = some (.lst (((cutL ws none (some (r : Int)) ++ [odd]) ++ (cutL ws (some (r : Int)) none)).map V.str)) := upd_same
      generalize (upd H9 q10 (.lst (((cutL ws none (some (r : Int)) ++ [odd]) ++ (cutL ws (some (r : Int)) none)).map V.str))) = H10 at *
      refine fin _ _ _ T10 (T9.free nq10) f10 ?_ (((hws.cut _ _).app hodd).app (hws.cut _ _))
      try simp only [List.length_append, List.length_singleton]
      omega
    -- way == 2
    refine ⟨.int (k : Int), rfl, rfl, _, rfl, ite2 (fun e => ?_) (fun e2 => ?_)⟩
    · skip
      refine ⟨.ref W, rfl, .str odd, rfl, ?_⟩
      refine ⟨(by show 1 ≤ sizeLine; decide), fun q6 nq6 => ?_⟩
      have S6 := same_upd (o := .lst [.str (odd)]) nq6
      have T6 := T5.trans S6
      have f6 : (upd H5 q6 (.lst [.str (odd)])) q6 = some (.lst ([odd].map V.str)) := upd_same
      generalize (upd H5 q6 (.lst [.str (odd)])) = H6 at *
      refine ⟨W, q6, _, _, rfl, rfl, S6 _ _ gW, f6, by rw [List.length_map, List.length_map]; (try simp only [List.length_append, List.length_singleton]); omega, fun q7 nq7 => ?_⟩
      rw [← List.map_append]
      have S7 := same_upd (o := .lst (((ws) ++ ([odd])).map V.str)) nq7
      have T7 := T6.trans S7
      have f7 : (upd H6 q7 (.lst (((ws) ++ ([odd])).map V.str))) q7 = some (.lst (((ws) ++ ([odd])).map V.str)) := upd_same
      generalize (upd H6 q7 (.lst (((ws) ++ ([odd])).map V.str))) = H7 at *
      refine fin _ _ _ T7 (T6.free nq7) f7 ?_ (hws.app hodd)
      try simp only [List.length_append, List.length_singleton]
      omega
    -- way == 3
    refine ⟨.int (k : Int), rfl, rfl, _, rfl, ite2 (fun e => ?_) (fun e3 => ?_)⟩
    · skip
      refine ⟨.ref W, rfl, .int (r : Int), rfl, (r : Int), rfl, W, _, rfl, .inl (.inl (T5 _ _ gW)), fun q6 nq6 => ?_⟩
      have S6 := same_upd (o := .lst (cutV (ws.map V.str) none (some (r : Int)))) nq6
      have T6 := T5.trans S6
      have f6 : (upd H5 q6 (.lst (cutV (ws.map V.str) none (some (r : Int))))) q6 = some (.lst ((cutL ws none (some (r : Int))).map V.str)) := by rw [upd_same, cutV_map]
      generalize (upd H5 q6 (.lst (cutV (ws.map V.str) none (some (r : Int))))) = H6 at *
      have k6 := cutL_len ws none (some (r : Int))
      refine ⟨.ref W, rfl, .int (r : Int), rfl, W, _, (r : Int), .str zz, rfl, rfl, .inl (.inl (T6 _ _ gW)), hat, .str odd, rfl, zz, odd, rfl, rfl, by omega, ?_⟩
      have hzo : LOk (B + 6) [zz ++ odd] := LOk.one (by rw [str_app_len]; omega) (hzw.2.app ho3)
      refine ⟨(by show 1 ≤ sizeLine; decide), fun q7 nq7 => ?_⟩
      have S7 := same_upd (o := .lst [.str (zz ++ odd)]) nq7
      have T7 := T6.trans S7
      have f7 : (upd H6 q7 (.lst [.str (zz ++ odd)])) q7 = some (.lst ([zz ++ odd].map V.str)) := upd_same
      generalize (upd H6 q7 (.lst [.str (zz ++ odd)])) = H7 at *
      refine ⟨q6, q7, _, _, rfl, rfl, S7 _ _ f6, f7, by rw [List.length_map, List.length_map]; (try simp only [List.length_append, List.length_singleton]); omega, fun q8 nq8 => ?_⟩
      rw [← List.map_append]
      have S8 := same_upd (o := .lst (((cutL ws none (some (r : Int))) ++ ([zz ++ odd])).map V.str)) nq8
      have T8 := T7.trans S8
      have f8 : (upd H7 q8 (.lst (((cutL ws none (some (r : Int))) ++ ([zz ++ odd])).map V.str))) q8 = some (.lst (((cutL ws none (some (r : Int))) ++ ([zz ++ odd])).map V.str)) := upd_same
      generalize (upd H7 q8 (.lst (((cutL ws none (some (r : Int))) ++ ([zz ++ odd])).map V.str))) = H8 at *
      refine ⟨.ref W, rfl, .int (r : Int), rfl, (r : Int), 1, rfl, rfl, _, rfl, W, _, rfl, .inl (.inl (T8 _ _ gW)), fun q9 nq9 => ?_⟩
      have S9 := same_upd (o := .lst (cutV (ws.map V.str) (some ((r : Int) + 1)) none)) nq9
      have T9 := T8.trans S9
      have f9 : (upd H8 q9 (.lst (cutV (ws.map V.str) (some ((r : Int) + 1)) none))) q9 = some (.lst ((cutL ws (some ((r : Int) + 1)) none).map V.str)) := by rw [upd_same, cutV_map]
      generalize (upd H8 q9 (.lst (cutV (ws.map V.str) (some ((r : Int) + 1)) none))) = H9 at *
      have k9 := cutL_len ws (some ((r : Int) + 1)) none
      refine ⟨q8, q9, _, _, rfl, rfl, S9 _ _ f8, f9, by rw [List.length_map, List.length_map]; (try simp only [List.length_append, List.length_singleton]); omega, fun q10 nq10 => ?_⟩
      rw [← List.map_append]
      have S10 := same_upd (o := .lst (((cutL ws none (some (r : Int)) ++ [zz ++ odd]) ++ (cutL ws (some ((r : Int) + 1)) none)).map V.str)) nq10
      have T10 := T9.trans S10
      have f10 : (upd H9 q10 (.lst (((cutL ws none (some (r : Int)) ++ [zz ++ odd]) ++ (cutL ws (some ((r : Int) + 1)) none)).map V.str))) q10 = some (.lst (((cutL ws none (some (r : Int)) ++ [zz ++ odd]) ++ (cutL ws (some ((r : Int) + 1)) none)).map V.str)) := upd_same
      generalize (upd H9 q10 (.lst (((cutL ws none (some (r : Int)) ++ [zz ++ odd]) ++ (cutL ws (some ((r : Int) + 1)) none)).map V.str))) = H10 at *
      refine fin _ _ _ T10 (T9.free nq10) f10 ?_ (((hws.cut _ _).app hzo).app (hws.cut _ _))
      try simp only [List.length_append, List.length_singleton]
      omega
    -- way == 4
    refine ⟨.int (k : Int), rfl, rfl, _, rfl, ite2 (fun e => ?_) (fun e4 => ?_)⟩
    · skip
      refine ⟨.ref W, rfl, .int (r : Int), rfl, (r : Int), rfl, W, _, rfl, .inl (.inl (T5 _ _ gW)), fun q6 nq6 => ?_⟩
      have S6 := same_upd (o := .lst (cutV (ws.map V.str) none (some (r : Int)))) nq6
      have T6 := T5.trans S6
      have f6 : (upd H5 q6 (.lst (cutV (ws.map V.str) none (some (r : Int))))) q6 = some (.lst ((cutL ws none (some (r : Int))).map V.str)) := by rw [upd_same, cutV_map]
      generalize (upd H5 q6 (.lst (cutV (ws.map V.str) none (some (r : Int))))) = H6 at *
      have k6 := cutL_len ws none (some (r : Int))
      refine ⟨.str odd, rfl, .ref W, rfl, .int (r : Int), rfl, W, _, (r : Int), .str zz, rfl, rfl, .inl (.inl (T6 _ _ gW)), hat, odd, zz, rfl, rfl, by omega, ?_⟩
      have hoz : LOk (B + 6) [odd ++ zz] := LOk.one (by rw [str_app_len]; omega) (ho3.app hzw.2)
      refine ⟨(by show 1 ≤ sizeLine; decide), fun q7 nq7 => ?_⟩
      have S7 := same_upd (o := .lst [.str (odd ++ zz)]) nq7
      have T7 := T6.trans S7
      have f7 : (upd H6 q7 (.lst [.str (odd ++ zz)])) q7 = some (.lst ([odd ++ zz].map V.str)) := upd_same
      generalize (upd H6 q7 (.lst [.str (odd ++ zz)])) = H7 at *
      refine ⟨q6, q7, _, _, rfl, rfl, S7 _ _ f6, f7, by rw [List.length_map, List.length_map]; (try simp only [List.length_append, List.length_singleton]); omega, fun q8 nq8 => ?_⟩
      rw [← List.map_append]
      have S8 := same_upd (o := .lst (((cutL ws none (some (r : Int))) ++ ([odd ++ zz])).map V.str)) nq8
      have T8 := T7.trans S8
      have f8 : (upd H7 q8 (.lst (((cutL ws none (some (r : Int))) ++ ([odd ++ zz])).map V.str))) q8 = some (.lst (((cutL ws none (some (r : Int))) ++ ([odd ++ zz])).map V.str)) := upd_same
      generalize (upd H7 q8 (.lst (((cutL ws none (some (r : Int))) ++ ([odd ++ zz])).map V.str))) = H8 at *
      refine ⟨.ref W, rfl, .int (r : Int), rfl, (r : Int), 1, rfl, rfl, _, rfl, W, _, rfl, .inl (.inl (T8 _ _ gW)), fun q9 nq9 => ?_⟩
      have S9 := same_upd (o := .lst (cutV (ws.map V.str) (some ((r : Int) + 1)) none)) nq9
      have T9 := T8.trans S9
      have f9 : (upd H8 q9 (.lst (cutV (ws.map V.str) (some ((r : Int) + 1)) none))) q9 = some (.lst ((cutL ws (some ((r : Int) + 1)) none).map V.str)) := by rw [upd_same, cutV_map]
      generalize (upd H8 q9 (.lst (cutV (ws.map V.str) (some ((r : Int) + 1)) none))) = H9 at *
      have k9 := cutL_len ws (some ((r : Int) + 1)) none
      refine ⟨q8, q9, _, _, rfl, rfl, S9 _ _ f8, f9, by rw [List.length_map, List.length_map]; (try simp only [List.length_append, List.length_singleton]); omega, fun q10 nq10 => ?_⟩
      rw [← List.map_append]
      have S10 := same_upd (o := .lst (((cutL ws none (some (r : Int)) ++ [odd ++ zz]) ++ (cutL ws (some ((r : Int) + 1)) none)).map V.str)) nq10
      have T10 := T9.trans S10
      have f10 : (upd H9 q10 (.lst (((cutL ws none (some (r : Int)) ++ [odd ++ zz]) ++ (cutL ws (some ((r : Int) + 1)) none)).map V.str))) q10 = some (.lst (((cutL ws none (some (r : Int)) ++ [odd ++ zz]) ++ (cutL ws (some ((r : Int) + 1)) none)).map V.str)) := upd_same
      generalize (upd H9 q10 (.lst (((cutL ws none (some (r : Int)) ++ [odd ++ zz]) ++ (cutL ws (some ((r : Int) + 1)) none)).map V.str))) = H10 at *
      refine fin _ _ _ T10 (T9.free nq10) f10 ?_ (((hws.cut _ _).app hoz).app (hws.cut _ _))
      try simp only [List.length_append, List.length_singleton]
      omega
    refine ⟨.ref W, rfl, .int (r : Int), rfl, (r : Int), rfl, W, _, rfl, .inl (.inl (T5 _ _ gW)), fun q6 nq6 => ?_⟩
    have S6 := same_upd (o := .lst (cutV (ws.map V.str) none (some (r : Int)))) nq6
    have T6 := T5.trans S6
    have f6 : (upd H5 q6 (.lst (cutV (ws.map V.str) none (some (r : Int))))) q6 = some (.lst ((cutL ws none (some (r : Int))).map V.str)) := by rw [upd_same, cutV_map]
    generalize (upd H5 q6 (.lst (cutV (ws.map V.str) none (some (r : Int))))) = H6 at *
    have k6 := cutL_len ws none (some (r : Int))
    refine ⟨.str odd, rfl, ?_⟩
    refine ⟨(by show 1 ≤ sizeLine; decide), fun q7 nq7 => ?_⟩
    have S7 := same_upd (o := .lst [.str (odd)]) nq7
    have T7 := T6.trans S7
    have f7 : (upd H6 q7 (.lst [.str (odd)])) q7 = some (.lst ([odd].map V.str)) := upd_same
    generalize (upd H6 q7 (.lst [.str (odd)])) = H7 at *
    refine ⟨q6, q7, _, _, rfl, rfl, S7 _ _ f6, f7, by rw [List.length_map, List.length_map]; (try simp only [List.length_append, List.length_singleton]); omega, fun q8 nq8 => ?_⟩
    rw [← List.map_append]
    have S8 := same_upd (o := .lst (((cutL ws none (some (r : Int))) ++ ([odd])).map V.str)) nq8
    have T8 := T7.trans S8
    have f8 : (upd H7 q8 (.lst (((cutL ws none (some (r : Int))) ++ ([odd])).map V.str))) q8 = some (.lst (((cutL ws none (some (r : Int))) ++ ([odd])).map V.str)) := upd_same
    generalize (upd H7 q8 (.lst (((cutL ws none (some (r : Int))) ++ ([odd])).map V.str))) = H8 at *
    refine ⟨.ref W, rfl, .int (r : Int), rfl, (r : Int), 1, rfl, rfl, _, rfl, W, _, rfl, .inl (.inl (T8 _ _ gW)), fun q9 nq9 => ?_⟩
    have S9 := same_upd (o := .lst (cutV (ws.map V.str) (some ((r : Int) + 1)) none)) nq9
    have T9 := T8.trans S9
    have f9 : (upd H8 q9 (.lst (cutV (ws.map V.str) (some ((r : Int) + 1)) none))) q9 = some (.lst ((cutL ws (some ((r : Int) + 1)) none).map V.str)) := by rw [upd_same, cutV_map]
    generalize (upd H8 q9 (.lst (cutV (ws.map V.str) (some ((r : Int) + 1)) none))) = H9 at *
    have k9 := cutL_len ws (some ((r : Int) + 1)) none
    refine ⟨q8, q9, _, _, rfl, rfl, S9 _ _ f8, f9, by rw [List.length_map, List.length_map]; (try simp only [List.length_append, List.length_singleton]); omega, fun q10 nq10 => ?_⟩
    rw [← List.map_append]
    have S10 := same_upd (o := .lst (((cutL ws none (some (r : Int)) ++ [odd]) ++ (cutL ws (some ((r : Int) + 1)) none)).map V.str)) nq10
    have T10 := T9.trans S10
    have f10 : (upd H9 q10 (.lst (((cutL ws none (some (r : Int)) ++ [odd]) ++ (cutL ws (some ((r : Int) + 1)) none)).map V.str))) q10 = some (.lst (((cutL ws none (some (r : Int)) ++ [odd]) ++ (cutL ws (some ((r : Int) + 1)) none)).map V.str)) := upd_same
    generalize (upd H9 q10 (.lst (((cutL ws none (some (r : Int)) ++ [odd]) ++ (cutL ws (some ((r : Int) + 1)) none)).map V.str))) = H10 at *
    refine fin _ _ _ T10 (T9.free nq10) f10 ?_ (((hws.cut _ _).app hodd).app (hws.cut _ _))
    try simp only [List.length_append, List.length_singleton]
    omega
end
end L_k03

namespace L_k03
open PySem PySem.Spec PyProof.Rows L2 Lot
abbrev sRight : Stmt := topS 37
theorem scRight : FnScope ["board", "text", "due", "found", "caught", "e"] ["board", "text"] (defScope sRight) := ⟨rfl, rfl, rfl, by decide +kernel, rfl, by decide +kernel, by decide +kernel⟩
section
variable {P : Program} {w : World} {K : PySem.W.Frag} {mg : Str → Option Value} {base : Heap}
/-- _law_right(board, text): True -/
def spRight : Sp := fun vs H Q _ => ∃ (b : Addr) (bd : Bd) (text : Str), vs = [.ref b, .str text] ∧ H b = some (.tup bd.vals) ∧ bd.Ok 36 ∧ text.length ≤ 10000 ∧ Ascii text ∧ ∀ H', Same H H' → Q (.bl true) H'
theorem ok_right {f fR fU C S fI cc cda dBarred dFew dFull dNoBook dNoDeed dNoName dNoPair dNoPlan dNoRound dNotEven dNoTurning dTooMany : Addr} {fd fdR fdU : FuncData} {st : Stmt} {qual : Str} {msg : Expr} (F : Fun K "_law_right" "_law_right" sRight f fd) (R : DefX P w K mg base 4 "read_standing" ["board", "text"] (spRead C) fR fdR)
    (D__law_due : Def P w K mg base 2 "_law_due" ["board", "text"] spDue fU fdU) (T : SupTxt P K st qual "at" msg C fI cc cda) (TI : IsTxt K C) (gN : mg "NoStanding" = some (.ref C)) (gS : mg "StrideError" = some (.ref S)) (hE : PySem.W.exmOne K (.ref C) (.ref S) = some true)
    (O_Barred : Other K mg C "Barred" dBarred) (O_Few : Other K mg C "Few" dFew) (O_Full : Other K mg C "Full" dFull) (O_NoBook : Other K mg C "NoBook" dNoBook) (O_NoDeed : Other K mg C "NoDeed" dNoDeed) (O_NoName : Other K mg C "NoName" dNoName) (O_NoPair : Other K mg C "NoPair" dNoPair) (O_NoPlan : Other K mg C "NoPlan" dNoPlan) (O_NoRound : Other K mg C "NoRound" dNoRound) (O_NotEven : Other K mg C "NotEven" dNotEven) (O_NoTurning : Other K mg C "NoTurning" dNoTurning) (O_TooMany : Other K mg C "TooMany" dTooMany)
    (m_isinstance : mg "isinstance" = none) (m_int : mg "int" = none) (m_bool : mg "bool" = none) (m_ValueError : mg "ValueError" = none) (m_repr : mg "repr" = none) :
    GOk P w K mg base 5 f fd ["board", "text"] spRight := by
  refine ⟨fun vs H Q E h => ?_, g_ok F scRight (fun vs H Q E h => ?_) (fun cdv A outer s H vs Q E hG hr h => ?_)⟩
  · obtain ⟨b, bd, text, rfl, _⟩ := h
    rfl
  · obtain ⟨b, bd, text, rfl, _⟩ := h
    rfl
  · obtain ⟨b, bd, text, rfl, hB, ok, htl, asc, q⟩ := h
    refine ⟨_, (pss_cons (ps_set (i := 2) scRight.nd rfl (by first | exact .inl rfl | exact .inr rfl) (pe_call D__law_due.ok (hr.mono (by decide)) (by rfl) D__law_due.g D__law_due.kp D__law_due.b .nil pass0 (pa_cons (pv 0) (pa_cons (pv 1) pa_nil))))
      (pss_cons (ps_set (i := 3) scRight.nd rfl (by first | exact .inl rfl | exact .inr rfl) pe_non)
      (pss_cons (ps_set (i := 4) scRight.nd rfl (by first | exact .inl rfl | exact .inr rfl) pe_non)
      (pss_cons (ps_try_held (i := 5) (tb := fun W => tAsg (tCallS (spRead C) (WE W) (tCons (tVar 0) (tCons (tVar 1) tNil))) (gName 3)) (ts := fun a => tAsg (tVar 5) (gName 4)) rfl rfl rfl scRight.nd rfl rfl ⟨rfl, by decide, .inl gS⟩ (fun W pn xe tk _ => pss_one (ps_set (i := 3) scRight.nd rfl (.inl rfl) (by exact (pe_callS R.ok hr rfl R.g R.kp R.b (fun σ => passAt tk σ) (by exact (pa_cons (pv 0) (pa_cons (pv 1) pa_nil))))))) (fun a pn => pss_one (ps_set (i := 4) scRight.nd rfl (.inl rfl) (pv 5))))
      (pss_cons (ps_if (pt_not (pt_val (pe_callB call_isi (by rfl) m_isinstance (by decide +kernel) (pa_cons (pv 2) (pa_cons (pe_bltn (by rfl) m_int (by decide +kernel) rfl (v := .ty "int")) pa_nil))))) (pss_one (ps_ret (pe_and (pe_cmpR op_isN (pv 4) pe_non (nomark _)) (pe_one (pe_cmpR op_eq (pe_callB (call_reprV hG hr) (by rfl) m_repr (by decide +kernel) (pa_cons (pv 3) pa_nil)) (pe_callB (call_reprV hG hr) (by rfl) m_repr (by decide +kernel) (pa_cons (pv 2) pa_nil)) (nomark _)))))) pss_nil)
      (pss_cons (ps_if (PW.pt (pw_or (pt_not (pt_val (pe_callB (call_isK TI) (by rfl) m_isinstance (by decide +kernel) (pa_cons (pv 4) (pa_cons (pe_glob (v := .ref C) (by rfl) gN rfl) pa_nil))))) (pw_or1 (pt_not (pt_val (pe_callB (call_isK TI) (by rfl) m_isinstance (by decide +kernel) (pa_cons (pv 4) (pa_cons (pe_bltn (by rfl) m_ValueError (by decide +kernel) rfl (v := .ty "ValueError")) pa_nil)))))))) (pss_one (ps_ret pe_bl)) pss_nil)
      (pss_cons (ps_if (pt_val (pe_callB (call_isKT TI) (by rfl) m_isinstance (by decide +kernel) (pa_cons (pv 4) (pa_cons (pe_tup (pa_cons (pe_glob (v := .ref dBarred) (by rfl) O_Barred.g rfl) (pa_cons (pe_glob (v := .ref dFew) (by rfl) O_Few.g rfl) (pa_cons (pe_glob (v := .ref dFull) (by rfl) O_Full.g rfl) (pa_cons (pe_glob (v := .ref dNoBook) (by rfl) O_NoBook.g rfl) (pa_cons (pe_glob (v := .ref dNoDeed) (by rfl) O_NoDeed.g rfl) (pa_cons (pe_glob (v := .ref dNoName) (by rfl) O_NoName.g rfl) (pa_cons (pe_glob (v := .ref dNoPair) (by rfl) O_NoPair.g rfl) (pa_cons (pe_glob (v := .ref dNoPlan) (by rfl) O_NoPlan.g rfl) (pa_cons (pe_glob (v := .ref dNoRound) (by rfl) O_NoRound.g rfl) (pa_cons (pe_glob (v := .ref dNotEven) (by rfl) O_NotEven.g rfl) pa_nil))))))))))) pa_nil)))) (pss_one (ps_ret pe_bl)) pss_nil)
      (pss_cons (ps_if (PW.pt (pw_or (pt_val (pe_callB (call_isKT TI) (by rfl) m_isinstance (by decide +kernel) (pa_cons (pv 4) (pa_cons (pe_tup (pa_cons (pe_glob (v := .ref dNoTurning) (by rfl) O_NoTurning.g rfl) (pa_cons (pe_glob (v := .ref dTooMany) (by rfl) O_TooMany.g rfl) pa_nil))) pa_nil)))) (pw_or1 (pt_val (pe_callB call_isi (by rfl) m_isinstance (by decide +kernel) (pa_cons (pe_heldFld T (pv 4)) (pa_cons (pe_bltn (by rfl) m_bool (by decide +kernel) rfl (v := .ty "bool")) pa_nil))))))) (pss_one (ps_ret pe_bl)) pss_nil)
      (pss_one (ps_ret (pe_cmpR op_eq (pe_heldFld T (pv 4)) (pv 2) (nomark _)))))))))))), ?_⟩
    refine ⟨.ref b, rfl, .str text, rfl, b, bd, text, rfl, hB, ok, htl, asc, fun i hi H1 S1 => ?_, fun hn H1 t S1 nt hst => ?_⟩
    · -- a place is told
      refine ⟨.ref b, rfl, .str text, rfl, b, bd, text, rfl, S1 _ _ hB, ok, htl, fun i2 hi2 H2 d S2 hd => ?_, fun hn2 => by rw [hi] at hn2; cases hn2⟩
      rw [hi] at hi2
      obtain rfl := Option.some.inj hi2
      refine ⟨hE, fun a0 na0 => ?_⟩
      have ed : (upd H2 d (.xd [("at", .int (i : Int))])) d = some (.xd [("at", .int (i : Int))]) := upd_same
      have S3 := (S1.trans S2).trans (same_upd (o := .xd [("at", .int (i : Int))]) hd)
      generalize (upd H2 d (.xd [("at", .int (i : Int))])) = H3 at *
      have ea : (upd H3 a0 (ExK (.ref C) (some d) a0)) a0 = some (ExK (.ref C) (some d) a0) := upd_same
      have ed4 := same_upd (o := ExK (.ref C) (some d) a0) na0 _ _ ed
      have S4 := S3.trans (same_upd (o := ExK (.ref C) (some d) a0) na0)
      generalize (upd H3 a0 (ExK (.ref C) (some d) a0)) = H4 at *
      refine ⟨.ref a0, rfl, ?_⟩
      -- not isinstance(due, int)
      refine ⟨.int (i : Int), rfl, .int (i : Int), .ty "int", .type "int", .type "int", true, rfl, .ty _, .base (.int _), kit_ty (by decide +kernel), true, rfl, iteN rfl ?_⟩
      -- NoStanding, ValueError
      refine ⟨.ref a0, rfl, a0, d, _, .ref C, .ref C, true, rfl, ea, ed4, .own C, kit_self, true, rfl, iteN rfl ?_⟩
      refine ⟨.ref a0, rfl, a0, d, _, .ty "ValueError", .type "ValueError", true, rfl, ea, ed4, .ty _, kit_VE T.vE, true, rfl, iteN rfl ?_⟩
      -- none of the ten
      refine ⟨.ref a0, rfl, (by show 10 ≤ sizeLine; decide), fun t1 nt1 => ?_⟩
      refine ⟨a0, d, t1, _, _, [dBarred, dFew, dFull, dNoBook, dNoDeed, dNoName, dNoPair, dNoPlan, dNoRound, dNotEven].map Value.ref, false, rfl, same_upd nt1 _ _ ea, same_upd nt1 _ _ ed4, upd_same, paired_own [dBarred, dFew, dFull, dNoBook, dNoDeed, dNoName, dNoPair, dNoPlan, dNoRound, dNotEven], kitAny_off ?_, false, rfl, iteN rfl ?_⟩
      · intro u hu
        simp only [List.map_cons, List.map_nil, List.mem_cons, List.not_mem_nil, or_false] at hu
        rcases hu with rfl | rfl | rfl | rfl | rfl | rfl | rfl | rfl | rfl | rfl
        · exact O_Barred.k
        · exact O_Few.k
        · exact O_Full.k
        · exact O_NoBook.k
        · exact O_NoDeed.k
        · exact O_NoName.k
        · exact O_NoPair.k
        · exact O_NoPlan.k
        · exact O_NoRound.k
        · exact O_NotEven.k
      have S5 := S4.trans (same_upd (o := .tup (([dBarred, dFew, dFull, dNoBook, dNoDeed, dNoName, dNoPair, dNoPlan, dNoRound, dNotEven] : List Addr).map V.ref)) nt1)
      have ea5 := same_upd (o := .tup (([dBarred, dFew, dFull, dNoBook, dNoDeed, dNoName, dNoPair, dNoPlan, dNoRound, dNotEven] : List Addr).map V.ref)) nt1 _ _ ea
      have ed5 := same_upd (o := .tup (([dBarred, dFew, dFull, dNoBook, dNoDeed, dNoName, dNoPair, dNoPlan, dNoRound, dNotEven] : List Addr).map V.ref)) nt1 _ _ ed4
      refine ⟨.ref a0, rfl, (by show 2 ≤ sizeLine; decide), fun t2 nt2 => ?_⟩
      refine ⟨a0, d, t2, _, _, [dNoTurning, dTooMany].map Value.ref, false, rfl, same_upd nt2 _ _ ea5, same_upd nt2 _ _ ed5, upd_same, paired_own [dNoTurning, dTooMany], kitAny_off ?_, false, rfl, iteN rfl ?_⟩
      · intro u hu
        simp only [List.map_cons, List.map_nil, List.mem_cons, List.not_mem_nil, or_false] at hu
        rcases hu with rfl | rfl
        · exact O_NoTurning.k
        · exact O_TooMany.k
      have S6 := S5.trans (same_upd (o := .tup (([dNoTurning, dTooMany] : List Addr).map V.ref)) nt2)
      have ea6 := same_upd (o := .tup (([dNoTurning, dTooMany] : List Addr).map V.ref)) nt2 _ _ ea5
      have ed6 := same_upd (o := .tup (([dNoTurning, dTooMany] : List Addr).map V.ref)) nt2 _ _ ed5
      refine ⟨.ref a0, rfl, a0, d, .int (i : Int), rfl, ea6, ed6, .int (i : Int), .ty "bool", .type "int", .type "bool", false, rfl, .ty _, .base (.int _), kit_ty (by decide +kernel), false, rfl, iteN rfl ?_⟩
      refine ⟨.ref a0, rfl, a0, d, .int (i : Int), rfl, ea6, ed6, .int (i : Int), rfl, rfl, ?_⟩
      rw [decide_eq_true rfl]
      exact q _ S6
    · -- a standing is read
      refine ⟨.ref b, rfl, .str text, rfl, b, bd, text, rfl, S1 _ _ hB, ok, htl, (fun i hi => by rw [hn] at hi; cases hi), fun _ H2 t2 S2 nt2 hst2 => ?_⟩
      have hst' := hst.same S2
      obtain ⟨as, et, _⟩ := hst'
      refine ⟨.ref t, rfl, .ref t, .ty "int", .type "tuple", .type "int", false, rfl, .ty _, .base (.tup et), kit_ty (by decide +kernel), false, rfl, iteP rfl ?_⟩
      refine ⟨.non, rfl, rfl, _, rfl, iteP (by decide) ?_⟩
      obtain ⟨j1, j2, j3, j4⟩ := dStand_ok (things_ok hn) (things_few ok hn)
      refine ⟨.ref t2, rfl, _, dStand (thingsIn (Txt.split text blank)), rfl, .inr ⟨_, rfl⟩, hst2.data, j1, j2, j3, j4, ?_⟩
      refine ⟨.ref t, rfl, _, dStand (thingsIn (Txt.split text blank)), rfl, .inr ⟨_, rfl⟩, (hst.same S2).data, j1, j2, j3, j4, rfl, ?_⟩
      rw [decide_eq_true rfl]
      exact q _ (S1.trans S2)
end
end L_k03

namespace L_k03
open PySem PySem.Spec PyProof.Rows L2 Lot
abbrev sLaw : Stmt := topS 38
theorem scLaw : FnScope ["script", "at", "pot", "board", "words", "once", "texts", "text", "other"] ["script"] (defScope sLaw) := ⟨rfl, rfl, rfl, by decide +kernel, rfl, by decide +kernel, by decide +kernel⟩
section
variable {P : Program} {w : World} {K : PySem.W.Frag} {mg : Str → Option Value} {base : Heap}
def spLaw (K : PySem.W.Frag) : Sp := fun vs H Q _ => ∃ (a : Addr) (ns : List Int), vs = [.ref a] ∧ SqL K H a (ns.map V.int) ∧ ns.length ≤ 63 ∧ ∀ H', Q (.bl true) H'
def dStrs (l : List Str) : PyData := .list (l.map .str)
theorem strs_data {K : PySem.W.Frag} {H : Hp} : ∀ l : List Str, DpAll K H (l.map V.str) (l.map PyData.str)
  | [] => .nil
  | c :: l => .cons (.str _) (strs_data l)
theorem strs_depth : ∀ l : List Str, PyData.depthAll (l.map PyData.str) = 0
  | [] => rfl
  | c :: l => by
    show max 0 (PyData.depthAll (l.map PyData.str)) = 0
    rw [strs_depth l]
    rfl
theorem str_can {z : Str} (h : AscS z) : PyData.canLay0 (.str z) = true := by
  show PyData.strOk z = true
  unfold PyData.strOk
  rw [Array.all_eq_true']
  intro c hc
  have := h c (by simpa using hc)
  exact decide_eq_true (by omega)
theorem strs_shaped {l : List Str} (h : ∀ z ∈ l, AscS z) : SeqAt.shaped (dStrs l) = true := by
  unfold SeqAt.shaped
  rw [Bool.and_eq_true]
  refine ⟨?_, decide_eq_true ?_⟩
  · show PyData.canLayAll0 (l.map PyData.str) = true
    induction l with
    | nil => rfl
    | cons t r ih =>
      show (PyData.canLay0 (.str t) && PyData.canLayAll0 (r.map PyData.str)) = true
      rw [str_can (h t List.mem_cons_self), ih fun x hx => h x (List.mem_cons_of_mem _ hx)]
      rfl
  · show PyData.depthAll _ + 1 ≤ 64
    rw [strs_depth]
    decide
theorem strs_nil (l : List Str) : PyData.eqv (dStrs l) (.list []) = l.isEmpty := by
  cases l with
  | nil => rfl
  | cons c r => rfl
def TOk (z : Str) : Prop := z.length ≤ 9000 ∧ AscS z
theorem join_tok {B n : Nat} {ys : List Str} (h : LOk B ys) (hn : ys.length ≤ n) (hb : n * B + n * 1 ≤ 8000) : TOk (Str.join (Str.ofString " ") ys) ∧ (Str.join (Str.ofString " ") ys).length ≤ 8000 := by
  have h1 : (Str.join (Str.ofString " ") ys).length ≤ n * B + n * 1 := join_le (fun z hz => (h z hz).1) hn (by decide)
  exact ⟨⟨by omega, AscS.join (by unfold AscS; decide +kernel) fun z hz => (h z hz).2⟩, by omega⟩
theorem fits_tok {B n : Nat} {ys : List Str} (h : LOk B ys) (hn : ys.length ≤ n) (hb : n * B + n * 1 ≤ 8000) : (ys.map (·.length)).sum + ys.length * 1 ≤ 16777216 :=
  join_fits (m := B) (n := n) (k := 1) (fun z hz => (h z hz).1) hn (by omega)
theorem ok_law {fpot fdip fboard fcells fstanding fwords fspoilt fright f : Addr} {dpot ddip dboard dcells dstanding dwords dspoilt dright fd : FuncData} (F : Fun K "law" "law" sLaw f fd)
    (D__law_pot : Def P w K mg base 1 "_law_pot" ["script", "at"] (spPot K) fpot dpot) (D__law_dip : Def P w K mg base 1 "_law_dip" ["pot", "many"] spDip fdip ddip) (D__law_board : Def P w K mg base 2 "_law_board" ["pot", "most"] spBoard fboard dboard)
    (D__law_cells : Def P w K mg base 1 "_law_cells" ["board"] (spCells K) fcells dcells) (D__law_standing : Def P w K mg base 3 "_law_standing" ["pot", "many"] spStanding fstanding dstanding)
    (D__law_words : Def P w K mg base 1 "_law_words" ["board", "standing"] spWords fwords dwords) (D__law_spoilt : Def P w K mg base 2 "_law_spoilt" ["pot", "words"] spSpoilt fspoilt dspoilt) (D__law_right : DefG P w K mg base 5 "_law_right" ["board", "text"] spRight fright dright)
    (m_range : mg "range" = none) (m_max : mg "max" = none) (m_min : mg "min" = none) (m_len : mg "len" = none) :
    GRun P w K mg base CX0 6 f fd ["script"] (spLaw K) := by
  refine g_ok F scLaw (fun vs H Q E h => ?_) (fun cdv A outer s H vs Q E hG hr h => ?_)
  · obtain ⟨a, ns, rfl, _⟩ := h
    rfl
  · obtain ⟨a, ns, rfl, hS, hl, q⟩ := h
    refine ⟨_, (pss_cons (ps_for PassesOwn.never rfl (pi_range1 (by rfl) m_range (pa_cons (pe_callB (call_max2 rfl) (by rfl) m_max (by decide +kernel) (pa_cons pe_int (pa_cons (pe_callB (call_min2 rfl) (by rfl) m_min (by decide +kernel) (pa_cons pe_int (pa_cons (pe_callB call_len_seq (by rfl) m_len PySem.boot_len (pa_cons (pv 0) pa_nil)) pa_nil))) pa_nil))) pa_nil)) (pg_name (i := 1) scLaw.nd rfl (by first | exact .inl rfl | exact .inr rfl)) (pss_cons (ps_set (i := 2) scLaw.nd rfl (by first | exact .inl rfl | exact .inr rfl) (pe_call D__law_pot.ok (hr.mono (by decide)) (by rfl) D__law_pot.g D__law_pot.kp D__law_pot.b .nil pass0 (pa_cons (pv 0) (pa_cons (pv 1) pa_nil))))
      (pss_cons (ps_set (i := 3) scLaw.nd rfl (by first | exact .inl rfl | exact .inr rfl) (pe_call D__law_board.ok (hr.mono (by decide)) (by rfl) D__law_board.g D__law_board.kp D__law_board.b .nil pass0 (pa_cons (pv 2) (pa_cons pe_int pa_nil))))
      (pss_cons (ps_set (i := 4) scLaw.nd rfl (by first | exact .inl rfl | exact .inr rfl) (pe_call D__law_words.ok (hr.mono (by decide)) (by rfl) D__law_words.g D__law_words.kp D__law_words.b .nil pass0 (pa_cons (pv 3) (pa_cons (pe_call D__law_standing.ok (hr.mono (by decide)) (by rfl) D__law_standing.g D__law_standing.kp D__law_standing.b .nil pass0 (pa_cons (pv 2) (pa_cons (pe_call D__law_cells.ok (hr.mono (by decide)) (by rfl) D__law_cells.g D__law_cells.kp D__law_cells.b .nil pass0 (pa_cons (pv 3) pa_nil)) pa_nil))) pa_nil))))
      (pss_cons (ps_set (i := 5) scLaw.nd rfl (by first | exact .inl rfl | exact .inr rfl) (pe_call D__law_spoilt.ok (hr.mono (by decide)) (by rfl) D__law_spoilt.g D__law_spoilt.kp D__law_spoilt.b .nil pass0 (pa_cons (pv 2) (pa_cons (pv 4) pa_nil))))
      (pss_cons (ps_set (i := 6) scLaw.nd rfl (by first | exact .inl rfl | exact .inr rfl) (pe_lst (pa_cons (pe_join pe_str (pv 5)) (pa_cons (pe_join pe_str (pe_op op_cat (pv 5) (pe_lst (pa_cons pe_str pa_nil)))) (pa_cons (pe_join pe_str (pv 4)) (pa_cons (pe_op op_add_str (pe_join pe_str (pv 4)) pe_str) (pa_cons pe_str (pa_cons pe_str pa_nil))))))))
      (C8.pss_cut (ps_if (pt_cmpR (op_neD hr.units) (pv 5) (pe_lst pa_nil) (nomark _)) (pss_one (ps_expr (pe_bm PySem.F.plainAttrs_list PySem.F.slot_list_append PySem.F.type_list_append mt_append (pv 6) (by exact (pa_cons (pe_join pe_str (pe_call D__law_spoilt.ok (hr.mono (by decide)) (by rfl) D__law_spoilt.g D__law_spoilt.kp D__law_spoilt.b .nil pass0 (pa_cons (pv 2) (pa_cons (pv 5) pa_nil)))) pa_nil))))) pss_nil)
      (pss_cons (ps_for PassesOwn.never rfl (pi_list (pe_op op_cat (pv 6) (pe_lst (pa_cons (pe_join pe_str (pe_slice sl_list (pv 4) po_none (po_some (pe_call D__law_dip.ok (hr.mono (by decide)) (by rfl) D__law_dip.g D__law_dip.kp D__law_dip.b .nil pass0 (pa_cons (pv 2) (pa_cons (pe_op op_add (pe_callB call_len_seq (by rfl) m_len PySem.boot_len (pa_cons (pv 4) pa_nil)) pe_int) pa_nil)))))) pa_nil)))) (pg_name (i := 7) scLaw.nd rfl (by first | exact .inl rfl | exact .inr rfl)) (pss_one (ps_if (PW.pt (pw_or (pt_not (pt_val (pe_callG hG D__law_right.ok (hr.mono (by decide)) (by rfl) D__law_right.g D__law_right.kp D__law_right.b .nil pass0 (pa_cons (pv 3) (pa_cons (pv 7) pa_nil))))) (pw_or1 (pt_not (pt_val (pe_callG hG D__law_right.ok (hr.mono (by decide)) (by rfl) D__law_right.g D__law_right.kp D__law_right.b .nil pass0 (pa_cons (pv 3) (pa_cons (pv 7) pa_nil)))))))) (pss_one (ps_ret pe_bl)) pss_nil)))
      (pss_cons (ps_set (i := 8) scLaw.nd rfl (by first | exact .inl rfl | exact .inr rfl) (pe_call D__law_board.ok (hr.mono (by decide)) (by rfl) D__law_board.g D__law_board.kp D__law_board.b .nil pass0 (pa_cons (pv 2) (pa_cons pe_int pa_nil))))
      (pss_one (ps_if (pt_not (pt_val (pe_callG hG D__law_right.ok (hr.mono (by decide)) (by rfl) D__law_right.g D__law_right.kp D__law_right.b .nil pass0 (pa_cons (pv 8) (pa_cons (pe_join pe_str (pv 4)) pa_nil))))) (pss_one (ps_ret pe_bl)) pss_nil)))))))))))
      (pss_one (ps_ret pe_bl))), ?_⟩
    have hsz : 30000 ≤ sizeLine := by decide
    refine ⟨.ref a, rfl, a, _, rfl, .inl hS, 4, _, rfl, 1, _, rfl, _, rfl, by split <;> omega, by split <;> split <;> omega, ?_⟩
    generalize hn : (if (if ((ns.map V.int).length : Int) < 4 then ((ns.map V.int).length : Int) else 4) > 1 then (if ((ns.map V.int).length : Int) < 4 then ((ns.map V.int).length : Int) else 4) else 1) = n
    have n5 : n ≤ 4 := by
      rw [← hn]
      split <;> split <;> omega
    refine for_range (lo := 0) (n := n.toNat) (fun i σ H' => ∃ y1 y2 y3 y4 y5 y6 y7 y8, σ = [some (.ref a), y1, y2, y3, y4, y5, y6, y7, y8] ∧ Same H H') ⟨none, none, none, none, none, none, none, none, rfl, Same.refl H⟩ (fun i σ H' hi hI => ?_) (fun σ H' hI => q _)
    obtain ⟨y1, y2, y3, y4, y5, y6, y7, y8, rfl, S0⟩ := hI
    refine ⟨.ref a, rfl, .int (0 + (i : Int)), rfl, a, ns, i, by rw [Int.zero_add]; rfl, S0.seq hS, by omega, fun p ws0 np hw0 => ?_⟩
    have P1 : PotAt (upd H' p (.lst ws0)) p 0 := PotAt.upd hw0
    have Hp0 : H p = none := S0.free np
    have S1 := S0.trans (same_upd (o := .lst ws0) np)
    generalize (upd H' p (.lst ws0)) = H1 at *
    -- board, words
    refine ⟨.ref p, rfl, p, 36, 0, rfl, by decide, by decide, P1, by decide, fun H2 b bd B2 P2 nb eb ok h3 => ?_⟩
    have hc := Bd.cells_le ok
    have bp : b ≠ p := P1.ne nb
    refine ⟨.ref b, rfl, .ref p, rfl, .ref b, rfl, b, bd, rfl, .inl (.inl eb), ok, ?_⟩
    refine ⟨p, bd.cells, 4, rfl, hc.1, hc.2, P2, by decide, fun H3 t ths B3 P3 nt hst hlen hok => ?_⟩
    refine ⟨b, t, bd, ths, rfl, B3 _ _ bp eb, ok, hst, hlen, hok, fun H4 W ws S4 nW eW hw1 hw2 hwk0 => ?_⟩
    have hwk : LOk 10 ws := hwk0
    have Wp : W ≠ p := P3.ne nW
    have P4 := P3.same S4
    have B4 := (B2.trans B3).trans (But.of_same (p := p) S4)
    have eb4 := S4 _ _ (B3 _ _ bp eb)
    -- once
    refine ⟨.ref p, rfl, .ref W, rfl, p, W, ws, _, 10, rfl, P4, by omega, eW, Wp, hw1, by omega, hwk, by decide, fun H5 L ys B5 P5 nL eL hyl hyk => ?_⟩
    have Lp : L ≠ p := P4.ne nL
    have eb5 := B5 _ _ bp eb4
    have eW5 := B5 _ _ Wp eW
    obtain ⟨N, hN, P5'⟩ : ∃ N, N ≤ 200 ∧ PotAt H5 p N := ⟨_, by omega, P5⟩
    have S5 := same_but S1 Hp0 (B4.trans B5)
    -- texts
    have hy1 := join_tok (n := 145) hyk (by omega) (by decide)
    have hw3 := join_tok (n := 72) hwk hw2 (by decide)
    refine ⟨⟨_, rfl⟩, .ref L, rfl, Str.ofString " ", L, ys, rfl, rfl, .inl (.inl (.inl eL)), fits_tok (n := 145) hyk (by omega) (by decide), ?_⟩
    rw [TL.join_eq]
    generalize Str.join (Str.ofString " ") ys = T1 at *
    refine ⟨⟨_, rfl⟩, .ref L, rfl, (by show 1 ≤ sizeLine; decide), fun q1 nq1 => ?_⟩
    have R1 := same_upd (o := .lst [.str (Str.ofString "a")]) nq1
    have f1 : (upd H5 q1 (.lst [.str (Str.ofString "a")])) q1 = some (.lst ([Str.ofString "a"].map V.str)) := upd_same
    generalize (upd H5 q1 (.lst [.str (Str.ofString "a")])) = H6 at *
    refine ⟨L, q1, _, _, rfl, rfl, R1 _ _ eL, f1, by rw [List.length_map, List.length_map, List.length_singleton]; omega, fun q2 nq2 => ?_⟩
    rw [← List.map_append]
    have hya : LOk 16 (ys ++ [Str.ofString "a"]) := LOk.app hyk (LOk.one (by decide +kernel) (by unfold AscS; decide +kernel))
    have hyal : (ys ++ [Str.ofString "a"]).length ≤ 146 := by rw [List.length_append, List.length_singleton]; omega
    have hy2 := join_tok (n := 146) hya hyal (by decide)
    have R2 := R1.trans (same_upd (o := .lst ((ys ++ [Str.ofString "a"]).map V.str)) nq2)
    have f2 : (upd H6 q2 (.lst ((ys ++ [Str.ofString "a"]).map V.str))) q2 = some (.lst ((ys ++ [Str.ofString "a"]).map V.str)) := upd_same
    generalize (upd H6 q2 (.lst ((ys ++ [Str.ofString "a"]).map V.str))) = H7 at *
    refine ⟨Str.ofString " ", q2, _, rfl, rfl, .inl (.inl (.inl f2)), fits_tok (n := 146) hya hyal (by decide), ?_⟩
    rw [TL.join_eq]
    generalize Str.join (Str.ofString " ") (ys ++ [Str.ofString "a"]) = T2 at *
    refine ⟨⟨_, rfl⟩, .ref W, rfl, Str.ofString " ", W, ws, rfl, rfl, .inl (.inl (.inl (R2 _ _ eW5))), fits_tok (n := 72) hwk hw2 (by decide), ?_⟩
    refine ⟨⟨_, rfl⟩, .ref W, rfl, Str.ofString " ", W, ws, rfl, rfl, .inl (.inl (.inl (R2 _ _ eW5))), fits_tok (n := 72) hwk hw2 (by decide), ?_⟩
    rw [TL.join_eq]
    generalize hT3 : Str.join (Str.ofString " ") ws = T3 at *
    have hnl : (Str.ofString "\n").length = 1 := by decide +kernel
    refine ⟨T3, Str.ofString "\n", rfl, rfl, by omega, ?_⟩
    refine ⟨(by show 6 ≤ sizeLine; decide), fun X nX => ?_⟩
    have hT4 : TOk (T3 ++ Str.ofString "\n") := ⟨by rw [str_app_len]; omega, hw3.1.2.app (by unfold AscS; decide +kernel)⟩
    have eX : (upd H7 X (.lst [.str T1, .str T2, .str T3, .str (T3 ++ Str.ofString "\n"), .str (Str.ofString ""), .str (Str.ofString " ")])) X = some (.lst ([T1, T2, T3, T3 ++ Str.ofString "\n", Str.ofString "", Str.ofString " "].map V.str)) := upd_same
    have hTk : ∀ z ∈ [T1, T2, T3, T3 ++ Str.ofString "\n", Str.ofString "", Str.ofString " "], TOk z := fun z hz => by
      simp only [List.mem_cons, List.not_mem_nil, or_false] at hz
      rcases hz with rfl | rfl | rfl | rfl | rfl | rfl
      · exact hy1.1
      · exact hy2.1
      · exact hw3.1
      · exact hT4
      · exact ⟨by decide +kernel, by unfold AscS; decide +kernel⟩
      · exact ⟨by decide +kernel, by unfold AscS; decide +kernel⟩
    have hTl : [T1, T2, T3, T3 ++ Str.ofString "\n", Str.ofString "", Str.ofString " "].length = 6 := rfl
    have R3 := R2.trans (same_upd (o := .lst [.str T1, .str T2, .str T3, .str (T3 ++ Str.ofString "\n"), .str (Str.ofString ""), .str (Str.ofString " ")]) nX)
    have nX5 : H5 X = none := R2.free nX
    have Xp : X ≠ p := P5'.ne nX5
    generalize (upd H7 X (.lst [.str T1, .str T2, .str T3, .str (T3 ++ Str.ofString "\n"), .str (Str.ofString ""), .str (Str.ofString " ")])) = H8 at *
    generalize [T1, T2, T3, T3 ++ Str.ofString "\n", Str.ofString "", Str.ofString " "] = tx0 at *
    have eL8 := R3 _ _ eL
    have P8 := P5'.same R3
    -- if once != []
    refine ⟨fun σ2 H9 => ∃ txs : List Str, σ2 = [some (.ref a), some (.int (0 + (i : Int))), some (.ref p), some (.ref b), some (.ref W), some (.ref L), some (.ref X), y7, y8] ∧ H9 X = some (.lst (txs.map V.str)) ∧ (∀ z ∈ txs, TOk z) ∧ txs.length ≤ 7 ∧ PotAt H9 p (N + 3) ∧ But p H5 H9, ?_, ?_⟩
    · refine ⟨.ref L, rfl, Nat.zero_le _, fun E0 nE => ?_⟩
      have eLE := same_upd (o := .lst []) nE _ _ eL8
      have eXE := same_upd (o := .lst []) nE _ _ eX
      have PE0 := P8.same (same_upd (o := .lst []) nE)
      have RE := R3.trans (same_upd (o := .lst []) nE)
      refine ⟨dStrs ys, .list [], .lst (.inl (.inl eLE)) (strs_data ys), .lst (.inl (.inl upd_same)) .nil, strs_shaped (fun z hz => (hyk z hz).2), by decide, _, rfl, ?_⟩
      rw [strs_nil]
      generalize (upd H8 E0 (.lst [])) = H9 at *
      cases hy : ys.isEmpty with
      | true => exact iteN rfl ⟨tx0, rfl, eXE, hTk, by omega, PE0.mono (by omega), But.of_same RE⟩
      | false =>
        refine iteP rfl ?_
        have hy0 : 1 ≤ ys.length := by
          cases ys with
          | nil => cases hy
          | cons _ _ => exact Nat.succ_le_succ (Nat.zero_le _)
        refine ⟨.ref X, rfl, .inl ⟨rfl, _, .inl (.inl eXE)⟩, ⟨_, rfl⟩, .ref p, rfl, .ref L, rfl, p, L, ys, N, 16, rfl, PE0, by omega, eLE, Lp, hy0, by omega, hyk, by decide, fun H10 M zs B10 P10 nM eM hzl hzk => ?_⟩
        have hz1 := join_tok (n := 291) hzk (by omega) (by decide)
        refine ⟨Str.ofString " ", M, zs, rfl, rfl, .inl (.inl (.inl eM)), fits_tok (n := 291) hzk (by omega) (by decide), ?_⟩
        rw [TL.join_eq]
        generalize Str.join (Str.ofString " ") zs = T5 at *
        have eX10 := B10 _ _ Xp eXE
        refine ⟨X, _, _, rfl, rfl, eX10, by rw [List.length_map]; omega, tx0 ++ [T5], rfl, by rw [upd_same]; exact map_snoc tx0 T5, fun z hz => ?_, by rw [List.length_append, List.length_singleton]; omega, P10.updne (Ne.symm Xp), ((But.of_same RE).trans B10).new nX5⟩
        rcases List.mem_append.mp hz with hz | hz
        · exact hTk z hz
        · rw [List.mem_singleton.mp hz]; exact hz1.1
    · rintro σ2 H9 ⟨txs, rfl, eX9, htx, htl, P9, B9⟩
      have eW9 := B9 _ _ Wp eW5
      have eb9 := B9 _ _ bp eb5
      have hml : (ws.map V.str).length = ws.length := List.length_map _
      -- texts + [..]
      refine ⟨.ref X, rfl, ⟨_, rfl⟩, .ref W, rfl, .ref p, rfl, .ref W, rfl, W, _, rfl, .inl (.inl (.inl eW9)), ((ws.map V.str).length : Nat), 1, rfl, rfl, p, _, N + 3, rfl, by omega, by omega, P9, by omega, fun r w1 hr hv1 => ?_⟩
      have P10 : PotAt (upd H9 p (.lst w1)) p (N + 4) := PotAt.upd hv1
      have B10 : But p H5 (upd H9 p (.lst w1)) := B9.trans But.upd
      have eX10 : (upd H9 p (.lst w1)) X = some (.lst (txs.map V.str)) := by rw [upd_ne Xp]; exact eX9
      have eW10 : (upd H9 p (.lst w1)) W = some (.lst (ws.map V.str)) := by rw [upd_ne Wp]; exact eW9
      have eb10 : (upd H9 p (.lst w1)) b = some (.tup bd.vals) := by rw [upd_ne bp]; exact eb9
      generalize (upd H9 p (.lst w1)) = H10 at *
      refine ⟨(r : Int), rfl, W, _, rfl, .inl (.inl eW10), fun q3 nq3 => ?_⟩
      have Q3 := same_upd (o := .lst (cutV (ws.map V.str) none (some (r : Int)))) nq3
      have f3 : (upd H10 q3 (.lst (cutV (ws.map V.str) none (some (r : Int))))) q3 = some (.lst ((cutL ws none (some (r : Int))).map V.str)) := by rw [upd_same, cutV_map]
      generalize (upd H10 q3 (.lst (cutV (ws.map V.str) none (some (r : Int))))) = H11 at *
      have k3 := cutL_len ws none (some (r : Int))
      have hck : LOk 10 (cutL ws none (some (r : Int))) := hwk.cut _ _
      have hc3 := join_tok (n := 72) hck (by omega) (by decide)
      refine ⟨Str.ofString " ", q3, _, rfl, rfl, .inl (.inl (.inl f3)), fits_tok (n := 72) hck (by omega) (by decide), ?_⟩
      rw [TL.join_eq]
      generalize Str.join (Str.ofString " ") (cutL ws none (some (r : Int))) = T6 at *
      refine ⟨(by show 1 ≤ sizeLine; decide), fun q4 nq4 => ?_⟩
      have Q4 := Q3.trans (same_upd (o := .lst [.str T6]) nq4)
      have f4 : (upd H11 q4 (.lst [.str T6])) q4 = some (.lst ([T6].map V.str)) := upd_same
      generalize (upd H11 q4 (.lst [.str T6])) = H12 at *
      refine ⟨X, q4, _, _, rfl, rfl, Q4 _ _ eX10, f4, by rw [List.length_map, List.length_map, List.length_singleton]; omega, fun q5 nq5 => ?_⟩
      rw [← List.map_append]
      have Q5 := Q4.trans (same_upd (o := .lst ((txs ++ [T6]).map V.str)) nq5)
      have f5 : (upd H12 q5 (.lst ((txs ++ [T6]).map V.str))) q5 = some (.lst ((txs ++ [T6]).map V.str)) := upd_same
      generalize (upd H12 q5 (.lst ((txs ++ [T6]).map V.str))) = H13 at *
      have hall : ∀ z ∈ txs ++ [T6], TOk z := fun z hz => by
        rcases List.mem_append.mp hz with hz | hz
        · exact htx z hz
        · rw [List.mem_singleton.mp hz]; exact hc3.1
      generalize txs ++ [T6] = all at *
      have eb13 := Q5 _ _ eb10
      have eW13 := Q5 _ _ eW10
      have P13 := P10.same Q5
      refine ⟨q5, rfl, ⟨_, .inl (.inl f5)⟩, ?_⟩
      refine for_list (K := K) (a := q5) (xs := all.map V.str) (fun j σ H14 => ∃ z7, σ = [some (.ref a), some (.int (0 + (i : Int))), some (.ref p), some (.ref b), some (.ref W), some (.ref L), some (.ref X), z7, y8] ∧ Same H13 H14) ⟨y7, rfl, Same.refl _⟩ (fun j σ H14 hj hJ => ?_) (fun j x σ H14 hx hJ => ?_) (fun σ H14 hJ => ?_)
      · obtain ⟨z7, _, S14⟩ := hJ
        exact .inl (.inl (S14 _ _ f5))
      · obtain ⟨z7, rfl, S14⟩ := hJ
        obtain ⟨text, htext, rfl⟩ : ∃ z, all[j]? = some z ∧ x = V.str z := by
          rw [List.getElem?_map] at hx
          cases e : all[j]? with
          | none => rw [e] at hx; cases hx
          | some c => rw [e] at hx; exact ⟨c, rfl, (Option.some.inj hx).symm⟩
        have ht := hall text (List.mem_of_getElem? htext)
        have hle : text.length ≤ 10000 := by have := ht.1; omega
        refine ⟨.ref b, rfl, .str text, rfl, b, bd, text, rfl, S14 _ _ eb13, ok, hle, ht.2, fun H15 S15 => ⟨true, rfl, iteN rfl ?_⟩⟩
        refine ⟨.ref b, rfl, .str text, rfl, b, bd, text, rfl, S15 _ _ (S14 _ _ eb13), ok, hle, ht.2, fun H16 S16 => ⟨true, rfl, iteN rfl ?_⟩⟩
        exact ⟨_, rfl, (S14.trans S15).trans S16⟩
      · obtain ⟨z7, rfl, S14⟩ := hJ
        -- other
        refine ⟨.ref p, rfl, p, 36, N + 4, rfl, by decide, by decide, P13.same S14, by omega, fun H15 b2 bd2 B15 P15 nb2 eb2 ok2 h32 => ?_⟩
        have eW15 := B15 _ _ Wp (S14 _ _ eW13)
        refine ⟨.ref b2, rfl, ⟨_, rfl⟩, .ref W, rfl, Str.ofString " ", W, ws, rfl, rfl, .inl (.inl (.inl eW15)), fits_tok (n := 72) hwk hw2 (by decide), ?_⟩
        rw [TL.join_eq, hT3]
        refine ⟨b2, bd2, T3, rfl, eb2, ok2, by have := hw3.2; omega, hw3.1.2, fun H16 S16 => ⟨true, rfl, iteN rfl ?_⟩⟩
        have Bend := ((B10.trans (But.of_same (Q5.trans S14))).trans B15).trans (But.of_same S16)
        exact ⟨_, _, _, _, _, _, _, _, rfl, same_but S1 Hp0 ((B4.trans B5).trans Bend)⟩
end
abbrev sx_NoStanding : Stmt := inClass (topS 4) 0
def msg_NoStanding : PySem.Expr := match defBody sx_NoStanding with
  | (.Expr (.Call _ (m :: _) _ _) _) :: _ => m
  | _ => .Constant .none 0 ⟨0, 0, 0, 0⟩
theorem tx_NoStanding : SupText sx_NoStanding "at" msg_NoStanding := ⟨⟨_, _, _, _, _, _, _, _, _, rfl, _, fun _ => rfl⟩, fun _ => rfl, rfl, rfl, ⟨by decide +kernel, by decide +kernel, by decide +kernel, by decide +kernel, by decide +kernel⟩⟩
theorem mx_NoStanding {prog : Program} {w : World} : MsgOk prog w msg_NoStanding "at" okInt := msg_mid (by decide +kernel) (by decide +kernel) (by decide +kernel)
theorem all_mk {l : PySem.W.OpenLaw} {w : World} {K : PySem.W.Frag} {h : Heap} {mg : Str → Option Value} {fa f_highandwide f_readstanding f_isname f_isdue f_thingof f_lawpot f_lawdip f_lawboard f_lawcells f_lawname f_lawnames f_lawmixed f_lawstanding f_lawwords f_lawthing f_lawdue f_lawspoilt f_lawright f_law : Addr} (X : K.In h) (G : h.Ns mainGlobals mg) (hfa : mg "law" = some (.ref fa))
    {od_highandwide an_highandwide od_readstanding an_readstanding od_isname an_isname od_isdue an_isdue od_thingof an_thingof od_lawpot an_lawpot od_lawdip an_lawdip od_lawboard an_lawboard od_lawcells an_lawcells od_lawname an_lawname od_lawnames an_lawnames od_lawmixed an_lawmixed od_lawstanding an_lawstanding od_lawwords an_lawwords od_lawthing an_lawthing od_lawdue an_lawdue od_lawspoilt an_lawspoilt od_lawright an_lawright od_law an_law : Option Addr} {sl_highandwide sl_readstanding sl_isname sl_isdue sl_thingof sl_lawpot sl_lawdip sl_lawboard sl_lawcells sl_lawname sl_lawnames sl_lawmixed sl_lawstanding sl_lawwords sl_lawthing sl_lawdue sl_lawspoilt sl_lawright sl_law : Array (Option Value)} {oc_highandwide kV_highandwide dc_highandwide pm_highandwide cd_highandwide ct_highandwide oc_readstanding kV_readstanding dc_readstanding pm_readstanding cd_readstanding ct_readstanding oc_isname kV_isname dc_isname pm_isname cd_isname ct_isname oc_isdue kV_isdue dc_isdue pm_isdue cd_isdue ct_isdue oc_thingof kV_thingof dc_thingof pm_thingof cd_thingof ct_thingof oc_lawpot kV_lawpot dc_lawpot pm_lawpot cd_lawpot ct_lawpot oc_lawdip kV_lawdip dc_lawdip pm_lawdip cd_lawdip ct_lawdip oc_lawboard kV_lawboard dc_lawboard pm_lawboard cd_lawboard ct_lawboard oc_lawcells kV_lawcells dc_lawcells pm_lawcells cd_lawcells ct_lawcells oc_lawname kV_lawname dc_lawname pm_lawname cd_lawname ct_lawname oc_lawnames kV_lawnames dc_lawnames pm_lawnames cd_lawnames ct_lawnames oc_lawmixed kV_lawmixed dc_lawmixed pm_lawmixed cd_lawmixed ct_lawmixed oc_lawstanding kV_lawstanding dc_lawstanding pm_lawstanding cd_lawstanding ct_lawstanding oc_lawwords kV_lawwords dc_lawwords pm_lawwords cd_lawwords ct_lawwords oc_lawthing kV_lawthing dc_lawthing pm_lawthing cd_lawthing ct_lawthing oc_lawdue kV_lawdue dc_lawdue pm_lawdue cd_lawdue ct_lawdue oc_lawspoilt kV_lawspoilt dc_lawspoilt pm_lawspoilt cd_lawspoilt ct_lawspoilt oc_lawright kV_lawright dc_lawright pm_lawright cd_lawright ct_lawright oc_law kV_law dc_law pm_law cd_law ct_law : Value}
    (a_highandwide : PySem.W.nsIn K mainGlobals "high_and_wide" = some (some (.ref f_highandwide))) (l_highandwide : K.lookup f_highandwide = some ⟨oc_highandwide, od_highandwide, .func (PySem.W.fnOf "high_and_wide" "high_and_wide" (defArgs sHighAndWide) (defBody sHighAndWide) (defScope sHighAndWide) .none kV_highandwide dc_highandwide pm_highandwide an_highandwide cd_highandwide ct_highandwide), sl_highandwide⟩) (c_highandwide : PySem.W.codeIn K cd_highandwide "high_and_wide" = true) (k_highandwide : PySem.W.keepIn K (.ref f_highandwide) = true)
    (a_readstanding : PySem.W.nsIn K mainGlobals "read_standing" = some (some (.ref f_readstanding))) (l_readstanding : K.lookup f_readstanding = some ⟨oc_readstanding, od_readstanding, .func (PySem.W.fnOf "read_standing" "read_standing" (defArgs sReadStanding) (defBody sReadStanding) (defScope sReadStanding) .none kV_readstanding dc_readstanding pm_readstanding an_readstanding cd_readstanding ct_readstanding), sl_readstanding⟩) (c_readstanding : PySem.W.codeIn K cd_readstanding "read_standing" = true) (k_readstanding : PySem.W.keepIn K (.ref f_readstanding) = true)
    (a_isname : PySem.W.nsIn K mainGlobals "is_name" = some (some (.ref f_isname))) (l_isname : K.lookup f_isname = some ⟨oc_isname, od_isname, .func (PySem.W.fnOf "is_name" "is_name" (defArgs sIsName) (defBody sIsName) (defScope sIsName) .none kV_isname dc_isname pm_isname an_isname cd_isname ct_isname), sl_isname⟩) (c_isname : PySem.W.codeIn K cd_isname "is_name" = true) (k_isname : PySem.W.keepIn K (.ref f_isname) = true)
    (a_isdue : PySem.W.nsIn K mainGlobals "_is_due" = some (some (.ref f_isdue))) (l_isdue : K.lookup f_isdue = some ⟨oc_isdue, od_isdue, .func (PySem.W.fnOf "_is_due" "_is_due" (defArgs sIsDue) (defBody sIsDue) (defScope sIsDue) .none kV_isdue dc_isdue pm_isdue an_isdue cd_isdue ct_isdue), sl_isdue⟩) (c_isdue : PySem.W.codeIn K cd_isdue "_is_due" = true) (k_isdue : PySem.W.keepIn K (.ref f_isdue) = true)
    (a_thingof : PySem.W.nsIn K mainGlobals "_thing_of" = some (some (.ref f_thingof))) (l_thingof : K.lookup f_thingof = some ⟨oc_thingof, od_thingof, .func (PySem.W.fnOf "_thing_of" "_thing_of" (defArgs sThingOf) (defBody sThingOf) (defScope sThingOf) .none kV_thingof dc_thingof pm_thingof an_thingof cd_thingof ct_thingof), sl_thingof⟩) (c_thingof : PySem.W.codeIn K cd_thingof "_thing_of" = true) (k_thingof : PySem.W.keepIn K (.ref f_thingof) = true)
    (a_lawpot : PySem.W.nsIn K mainGlobals "_law_pot" = some (some (.ref f_lawpot))) (l_lawpot : K.lookup f_lawpot = some ⟨oc_lawpot, od_lawpot, .func (PySem.W.fnOf "_law_pot" "_law_pot" (defArgs sPot) (defBody sPot) (defScope sPot) .none kV_lawpot dc_lawpot pm_lawpot an_lawpot cd_lawpot ct_lawpot), sl_lawpot⟩) (c_lawpot : PySem.W.codeIn K cd_lawpot "_law_pot" = true) (k_lawpot : PySem.W.keepIn K (.ref f_lawpot) = true)
    (a_lawdip : PySem.W.nsIn K mainGlobals "_law_dip" = some (some (.ref f_lawdip))) (l_lawdip : K.lookup f_lawdip = some ⟨oc_lawdip, od_lawdip, .func (PySem.W.fnOf "_law_dip" "_law_dip" (defArgs sDip) (defBody sDip) (defScope sDip) .none kV_lawdip dc_lawdip pm_lawdip an_lawdip cd_lawdip ct_lawdip), sl_lawdip⟩) (c_lawdip : PySem.W.codeIn K cd_lawdip "_law_dip" = true) (k_lawdip : PySem.W.keepIn K (.ref f_lawdip) = true)
    (a_lawboard : PySem.W.nsIn K mainGlobals "_law_board" = some (some (.ref f_lawboard))) (l_lawboard : K.lookup f_lawboard = some ⟨oc_lawboard, od_lawboard, .func (PySem.W.fnOf "_law_board" "_law_board" (defArgs sBoard) (defBody sBoard) (defScope sBoard) .none kV_lawboard dc_lawboard pm_lawboard an_lawboard cd_lawboard ct_lawboard), sl_lawboard⟩) (c_lawboard : PySem.W.codeIn K cd_lawboard "_law_board" = true) (k_lawboard : PySem.W.keepIn K (.ref f_lawboard) = true)
    (a_lawcells : PySem.W.nsIn K mainGlobals "_law_cells" = some (some (.ref f_lawcells))) (l_lawcells : K.lookup f_lawcells = some ⟨oc_lawcells, od_lawcells, .func (PySem.W.fnOf "_law_cells" "_law_cells" (defArgs sCells) (defBody sCells) (defScope sCells) .none kV_lawcells dc_lawcells pm_lawcells an_lawcells cd_lawcells ct_lawcells), sl_lawcells⟩) (c_lawcells : PySem.W.codeIn K cd_lawcells "_law_cells" = true) (k_lawcells : PySem.W.keepIn K (.ref f_lawcells) = true)
    (a_lawname : PySem.W.nsIn K mainGlobals "_law_name" = some (some (.ref f_lawname))) (l_lawname : K.lookup f_lawname = some ⟨oc_lawname, od_lawname, .func (PySem.W.fnOf "_law_name" "_law_name" (defArgs sName) (defBody sName) (defScope sName) .none kV_lawname dc_lawname pm_lawname an_lawname cd_lawname ct_lawname), sl_lawname⟩) (c_lawname : PySem.W.codeIn K cd_lawname "_law_name" = true) (k_lawname : PySem.W.keepIn K (.ref f_lawname) = true)
    (a_lawnames : PySem.W.nsIn K mainGlobals "_law_names" = some (some (.ref f_lawnames))) (l_lawnames : K.lookup f_lawnames = some ⟨oc_lawnames, od_lawnames, .func (PySem.W.fnOf "_law_names" "_law_names" (defArgs sNames) (defBody sNames) (defScope sNames) .none kV_lawnames dc_lawnames pm_lawnames an_lawnames cd_lawnames ct_lawnames), sl_lawnames⟩) (c_lawnames : PySem.W.codeIn K cd_lawnames "_law_names" = true) (k_lawnames : PySem.W.keepIn K (.ref f_lawnames) = true)
    (a_lawmixed : PySem.W.nsIn K mainGlobals "_law_mixed" = some (some (.ref f_lawmixed))) (l_lawmixed : K.lookup f_lawmixed = some ⟨oc_lawmixed, od_lawmixed, .func (PySem.W.fnOf "_law_mixed" "_law_mixed" (defArgs sMixed) (defBody sMixed) (defScope sMixed) .none kV_lawmixed dc_lawmixed pm_lawmixed an_lawmixed cd_lawmixed ct_lawmixed), sl_lawmixed⟩) (c_lawmixed : PySem.W.codeIn K cd_lawmixed "_law_mixed" = true) (k_lawmixed : PySem.W.keepIn K (.ref f_lawmixed) = true)
    (a_lawstanding : PySem.W.nsIn K mainGlobals "_law_standing" = some (some (.ref f_lawstanding))) (l_lawstanding : K.lookup f_lawstanding = some ⟨oc_lawstanding, od_lawstanding, .func (PySem.W.fnOf "_law_standing" "_law_standing" (defArgs sStanding) (defBody sStanding) (defScope sStanding) .none kV_lawstanding dc_lawstanding pm_lawstanding an_lawstanding cd_lawstanding ct_lawstanding), sl_lawstanding⟩) (c_lawstanding : PySem.W.codeIn K cd_lawstanding "_law_standing" = true) (k_lawstanding : PySem.W.keepIn K (.ref f_lawstanding) = true)
    (a_lawwords : PySem.W.nsIn K mainGlobals "_law_words" = some (some (.ref f_lawwords))) (l_lawwords : K.lookup f_lawwords = some ⟨oc_lawwords, od_lawwords, .func (PySem.W.fnOf "_law_words" "_law_words" (defArgs sWords) (defBody sWords) (defScope sWords) .none kV_lawwords dc_lawwords pm_lawwords an_lawwords cd_lawwords ct_lawwords), sl_lawwords⟩) (c_lawwords : PySem.W.codeIn K cd_lawwords "_law_words" = true) (k_lawwords : PySem.W.keepIn K (.ref f_lawwords) = true)
    (a_lawthing : PySem.W.nsIn K mainGlobals "_law_thing" = some (some (.ref f_lawthing))) (l_lawthing : K.lookup f_lawthing = some ⟨oc_lawthing, od_lawthing, .func (PySem.W.fnOf "_law_thing" "_law_thing" (defArgs sThing) (defBody sThing) (defScope sThing) .none kV_lawthing dc_lawthing pm_lawthing an_lawthing cd_lawthing ct_lawthing), sl_lawthing⟩) (c_lawthing : PySem.W.codeIn K cd_lawthing "_law_thing" = true) (k_lawthing : PySem.W.keepIn K (.ref f_lawthing) = true)
    (a_lawdue : PySem.W.nsIn K mainGlobals "_law_due" = some (some (.ref f_lawdue))) (l_lawdue : K.lookup f_lawdue = some ⟨oc_lawdue, od_lawdue, .func (PySem.W.fnOf "_law_due" "_law_due" (defArgs sDue) (defBody sDue) (defScope sDue) .none kV_lawdue dc_lawdue pm_lawdue an_lawdue cd_lawdue ct_lawdue), sl_lawdue⟩) (c_lawdue : PySem.W.codeIn K cd_lawdue "_law_due" = true) (k_lawdue : PySem.W.keepIn K (.ref f_lawdue) = true)
    (a_lawspoilt : PySem.W.nsIn K mainGlobals "_law_spoilt" = some (some (.ref f_lawspoilt))) (l_lawspoilt : K.lookup f_lawspoilt = some ⟨oc_lawspoilt, od_lawspoilt, .func (PySem.W.fnOf "_law_spoilt" "_law_spoilt" (defArgs sSpoilt) (defBody sSpoilt) (defScope sSpoilt) .none kV_lawspoilt dc_lawspoilt pm_lawspoilt an_lawspoilt cd_lawspoilt ct_lawspoilt), sl_lawspoilt⟩) (c_lawspoilt : PySem.W.codeIn K cd_lawspoilt "_law_spoilt" = true) (k_lawspoilt : PySem.W.keepIn K (.ref f_lawspoilt) = true)
    (a_lawright : PySem.W.nsIn K mainGlobals "_law_right" = some (some (.ref f_lawright))) (l_lawright : K.lookup f_lawright = some ⟨oc_lawright, od_lawright, .func (PySem.W.fnOf "_law_right" "_law_right" (defArgs sRight) (defBody sRight) (defScope sRight) .none kV_lawright dc_lawright pm_lawright an_lawright cd_lawright ct_lawright), sl_lawright⟩) (c_lawright : PySem.W.codeIn K cd_lawright "_law_right" = true) (k_lawright : PySem.W.keepIn K (.ref f_lawright) = true)
    (a_law : PySem.W.nsIn K mainGlobals "law" = some (some (.ref f_law))) (l_law : K.lookup f_law = some ⟨oc_law, od_law, .func (PySem.W.fnOf "law" "law" (defArgs sLaw) (defBody sLaw) (defScope sLaw) .none kV_law dc_law pm_law an_law cd_law ct_law), sl_law⟩) (c_law : PySem.W.codeIn K cd_law "law" = true) (k_law : PySem.W.keepIn K (.ref f_law) = true)
    (z_range : PySem.W.nsIn K mainGlobals "range" = some none)
    (z_max : PySem.W.nsIn K mainGlobals "max" = some none)
    (z_min : PySem.W.nsIn K mainGlobals "min" = some none)
    (z_len : PySem.W.nsIn K mainGlobals "len" = some none)
    (z_int : PySem.W.nsIn K mainGlobals "int" = some none)
    (z_list : PySem.W.nsIn K mainGlobals "list" = some none)
    (z_tuple : PySem.W.nsIn K mainGlobals "tuple" = some none)
    (z_all : PySem.W.nsIn K mainGlobals "all" = some none)
    (z_enumerate : PySem.W.nsIn K mainGlobals "enumerate" = some none)
    (z_repr : PySem.W.nsIn K mainGlobals "repr" = some none)
    (z_isinstance : PySem.W.nsIn K mainGlobals "isinstance" = some none)
    (z_bool : PySem.W.nsIn K mainGlobals "bool" = some none)
    (z_ValueError : PySem.W.nsIn K mainGlobals "ValueError" = some none)
    {t_MOST_LETTERS : Tok} (g_MOST_LETTERS : PySem.W.nsIn K mainGlobals "MOST_LETTERS" = some (some (.int 4 t_MOST_LETTERS)))
    {t_LETTERS : Tok} (g_LETTERS : PySem.W.nsIn K mainGlobals "LETTERS" = some (some (.str abc t_LETTERS)))
    {C_NoStanding fI_NoStanding cc_NoStanding cda_NoStanding : Addr} {nm_NoStanding qn_NoStanding : Str} {N_NoStanding : Addr} {bs_NoStanding bm_NoStanding sub_NoStanding : List Value} {sn_NoStanding : List Str} {ab_NoStanding : Bool} {col_NoStanding : Option Bool} {dd_NoStanding : Option Addr} {k0_NoStanding k1_NoStanding k2_NoStanding k3_NoStanding k5_NoStanding : Option Value}
    {soc_NoStanding skV_NoStanding sdc_NoStanding spm_NoStanding sct_NoStanding ccl_NoStanding cl_NoStanding : Value} {sod_NoStanding san_NoStanding cdd_NoStanding cld_NoStanding : Option Addr} {sosl_NoStanding vs_NoStanding : Array (Option Value)} {va_NoStanding : Array Value} {csl_NoStanding : Array (Option Value)} {file_NoStanding : Str} {tf_NoStanding : Tok}
    (a_NoStanding : PySem.W.nsIn K mainGlobals "NoStanding" = some (some (.ref C_NoStanding)))
    (x_NoStanding : K.lookup C_NoStanding = some (excClassObj nm_NoStanding qn_NoStanding C_NoStanding N_NoStanding bs_NoStanding bm_NoStanding true sn_NoStanding sub_NoStanding ab_NoStanding col_NoStanding dd_NoStanding k0_NoStanding k1_NoStanding k2_NoStanding k3_NoStanding k5_NoStanding "ValueError.__new__"))
    (hbm_NoStanding : PySem.HandSPX.refsVE bm_NoStanding = true)
    (sa_NoStanding : PySem.W.findIn K (.ref C_NoStanding) "__setattr__" = some (some (.builtin "object.__setattr__")))
    (ga_NoStanding : PySem.W.findIn K (.ref C_NoStanding) "__getattribute__" = some (some (.builtin "BaseException.__getattribute__")))
    (gg_NoStanding : PySem.W.findIn K (.ref C_NoStanding) "__getattr__" = some none)
    (no_NoStanding : PySem.W.findIn K (.ref C_NoStanding) "at" = some none)
    (iC_NoStanding : PySem.W.findIn K (.ref C_NoStanding) "__init__" = some (some (.ref fI_NoStanding)))
    (tI_NoStanding : PySem.W.typeIn K (.ref fI_NoStanding) = some (.type "function"))
    (kC_NoStanding : PySem.W.keepIn K (.ref C_NoStanding) = true)
    (eC_NoStanding : PySem.W.subIn K (.ref C_NoStanding) (.type "BaseException") = some true)
    (vE_NoStanding : PySem.W.subIn K (.ref C_NoStanding) (.type "ValueError") = some true)
    (tC_NoStanding : PySem.W.typeIn K (.ref C_NoStanding) = some (.type "type"))
    (hD_NoStanding : PySem.W.hasDictIn K C_NoStanding = true)
    (cI_NoStanding : PySem.W.isClsIn K C_NoStanding = true)
    (sC_NoStanding : PySem.W.subIn K (.ref C_NoStanding) (.ref C_NoStanding) = some true)
    (op_NoStanding : PySem.W.nsIn K PySem.cStatics "thirdparty.any" = some none)
    (mr_NoStanding : PySem.W.mroIn K C_NoStanding (.ref C_NoStanding) = some true)
    (su_NoStanding : PySem.W.ks_superIn K C_NoStanding C_NoStanding "__init__" = some (some (.builtin "ValueError.__init__")))
    (ns_NoStanding : PySem.W.nsIn K mainGlobals "super" = some none)
    (fn_NoStanding : K.lookup fI_NoStanding = some ⟨soc_NoStanding, sod_NoStanding, .func (PySem.W.ksFn "__init__" "NoStanding.__init__" (defArgs sx_NoStanding) (defBody sx_NoStanding) (defScope sx_NoStanding) .none skV_NoStanding sdc_NoStanding spm_NoStanding san_NoStanding (.ref cda_NoStanding) sct_NoStanding cc_NoStanding), sosl_NoStanding⟩)
    (cd_NoStanding : PySem.W.codeIn K (.ref cda_NoStanding) "NoStanding.__init__" = true)
    (co_NoStanding : K.lookup cda_NoStanding = some ⟨ccl_NoStanding, cdd_NoStanding, .fields va_NoStanding, vs_NoStanding⟩)
    (vf_NoStanding : va_NoStanding[2]? = some (.str file_NoStanding tf_NoStanding))
    (fi_NoStanding : ((l.prog.main.file : Str) == file_NoStanding) = true)
    (ce_NoStanding : K.lookup cc_NoStanding = some ⟨cl_NoStanding, cld_NoStanding, .cell (some (.ref C_NoStanding)), csl_NoStanding⟩)
    (tp_NoStanding : (l.prog.main.scope.names.lookup ("super" : Str)).isSome = false)
    (ca_is : PySem.W.findIn K (.ref C_NoStanding) "__class__" = some (some (.builtin "object.__class__")))
    (cn_is : PySem.W.specialIn K (.builtin "object.__class__") "__get__" = some (some (.builtin "getset_descriptor.__get__")))
    (ct_is : PySem.W.takesIn K (.builtin "object.__class__") = some true)
    (mo_is : PySem.W.mroIn K C_NoStanding (.type "object") = some true)
    {C_StrideError : Addr} (a_StrideError : PySem.W.nsIn K mainGlobals "StrideError" = some (some (.ref C_StrideError))) (cI_StrideError : PySem.W.isClsIn K C_StrideError = true) (tC_StrideError : PySem.W.typeIn K (.ref C_StrideError) = some (.type "type")) (sb_StrideError : PySem.W.subIn K (.ref C_NoStanding) (.ref C_StrideError) = some true)
    {C_Barred : Addr} (a_Barred : PySem.W.nsIn K mainGlobals "Barred" = some (some (.ref C_Barred))) (cI_Barred : PySem.W.isClsIn K C_Barred = true) (tC_Barred : PySem.W.typeIn K (.ref C_Barred) = some (.type "type")) (sb_Barred : PySem.W.subIn K (.ref C_NoStanding) (.ref C_Barred) = some false)
    {C_Few : Addr} (a_Few : PySem.W.nsIn K mainGlobals "Few" = some (some (.ref C_Few))) (cI_Few : PySem.W.isClsIn K C_Few = true) (tC_Few : PySem.W.typeIn K (.ref C_Few) = some (.type "type")) (sb_Few : PySem.W.subIn K (.ref C_NoStanding) (.ref C_Few) = some false)
    {C_Full : Addr} (a_Full : PySem.W.nsIn K mainGlobals "Full" = some (some (.ref C_Full))) (cI_Full : PySem.W.isClsIn K C_Full = true) (tC_Full : PySem.W.typeIn K (.ref C_Full) = some (.type "type")) (sb_Full : PySem.W.subIn K (.ref C_NoStanding) (.ref C_Full) = some false)
    {C_NoBook : Addr} (a_NoBook : PySem.W.nsIn K mainGlobals "NoBook" = some (some (.ref C_NoBook))) (cI_NoBook : PySem.W.isClsIn K C_NoBook = true) (tC_NoBook : PySem.W.typeIn K (.ref C_NoBook) = some (.type "type")) (sb_NoBook : PySem.W.subIn K (.ref C_NoStanding) (.ref C_NoBook) = some false)
    {C_NoDeed : Addr} (a_NoDeed : PySem.W.nsIn K mainGlobals "NoDeed" = some (some (.ref C_NoDeed))) (cI_NoDeed : PySem.W.isClsIn K C_NoDeed = true) (tC_NoDeed : PySem.W.typeIn K (.ref C_NoDeed) = some (.type "type")) (sb_NoDeed : PySem.W.subIn K (.ref C_NoStanding) (.ref C_NoDeed) = some false)
    {C_NoName : Addr} (a_NoName : PySem.W.nsIn K mainGlobals "NoName" = some (some (.ref C_NoName))) (cI_NoName : PySem.W.isClsIn K C_NoName = true) (tC_NoName : PySem.W.typeIn K (.ref C_NoName) = some (.type "type")) (sb_NoName : PySem.W.subIn K (.ref C_NoStanding) (.ref C_NoName) = some false)
    {C_NoPair : Addr} (a_NoPair : PySem.W.nsIn K mainGlobals "NoPair" = some (some (.ref C_NoPair))) (cI_NoPair : PySem.W.isClsIn K C_NoPair = true) (tC_NoPair : PySem.W.typeIn K (.ref C_NoPair) = some (.type "type")) (sb_NoPair : PySem.W.subIn K (.ref C_NoStanding) (.ref C_NoPair) = some false)
    {C_NoPlan : Addr} (a_NoPlan : PySem.W.nsIn K mainGlobals "NoPlan" = some (some (.ref C_NoPlan))) (cI_NoPlan : PySem.W.isClsIn K C_NoPlan = true) (tC_NoPlan : PySem.W.typeIn K (.ref C_NoPlan) = some (.type "type")) (sb_NoPlan : PySem.W.subIn K (.ref C_NoStanding) (.ref C_NoPlan) = some false)
    {C_NoRound : Addr} (a_NoRound : PySem.W.nsIn K mainGlobals "NoRound" = some (some (.ref C_NoRound))) (cI_NoRound : PySem.W.isClsIn K C_NoRound = true) (tC_NoRound : PySem.W.typeIn K (.ref C_NoRound) = some (.type "type")) (sb_NoRound : PySem.W.subIn K (.ref C_NoStanding) (.ref C_NoRound) = some false)
    {C_NotEven : Addr} (a_NotEven : PySem.W.nsIn K mainGlobals "NotEven" = some (some (.ref C_NotEven))) (cI_NotEven : PySem.W.isClsIn K C_NotEven = true) (tC_NotEven : PySem.W.typeIn K (.ref C_NotEven) = some (.type "type")) (sb_NotEven : PySem.W.subIn K (.ref C_NoStanding) (.ref C_NotEven) = some false)
    {C_NoTurning : Addr} (a_NoTurning : PySem.W.nsIn K mainGlobals "NoTurning" = some (some (.ref C_NoTurning))) (cI_NoTurning : PySem.W.isClsIn K C_NoTurning = true) (tC_NoTurning : PySem.W.typeIn K (.ref C_NoTurning) = some (.type "type")) (sb_NoTurning : PySem.W.subIn K (.ref C_NoStanding) (.ref C_NoTurning) = some false)
    {C_TooMany : Addr} (a_TooMany : PySem.W.nsIn K mainGlobals "TooMany" = some (some (.ref C_TooMany))) (cI_TooMany : PySem.W.isClsIn K C_TooMany = true) (tC_TooMany : PySem.W.typeIn K (.ref C_TooMany) = some (.type "type")) (sb_TooMany : PySem.W.subIn K (.ref C_NoStanding) (.ref C_TooMany) = some false)
    (eb_StrideError : PySem.W.subIn K (.ref C_StrideError) (.type "BaseException") = some true)
    : ∃ fd : FuncData, (∀ (s : Shared) (v : Value), BindsTo s fd ⟨[v], []⟩ [("script", v)]) ∧ ∀ base : Heap, K.In base → base.Ns mainGlobals mg → GRun l.prog w K mg base CX0 6 fa fd ["script"] (spLaw K) := by
  have e := hfa.symm.trans (PySem.W.mg_of X G a_law)
  cases e
  have F_highandwide := fun_mk (st := sHighAndWide) l_highandwide c_highandwide k_highandwide
  have b_highandwide := F_highandwide.binds (ps := ["board"]) fun _ _ _ _ _ _ us hl => match us, hl with | [_], _ => rfl
  have g_highandwide := PySem.W.mg_of X G a_highandwide
  have F_readstanding := fun_mk (st := sReadStanding) l_readstanding c_readstanding k_readstanding
  have b_readstanding := F_readstanding.binds (ps := ["board", "text"]) fun _ _ _ _ _ _ us hl => match us, hl with | [_, _], _ => rfl
  have g_readstanding := PySem.W.mg_of X G a_readstanding
  have F_isname := fun_mk (st := sIsName) l_isname c_isname k_isname
  have b_isname := F_isname.binds (ps := ["word"]) fun _ _ _ _ _ _ us hl => match us, hl with | [_], _ => rfl
  have g_isname := PySem.W.mg_of X G a_isname
  have F_isdue := fun_mk (st := sIsDue) l_isdue c_isdue k_isdue
  have b_isdue := F_isdue.binds (ps := ["word", "at", "wide"]) fun _ _ _ _ _ _ us hl => match us, hl with | [_, _, _], _ => rfl
  have g_isdue := PySem.W.mg_of X G a_isdue
  have F_thingof := fun_mk (st := sThingOf) l_thingof c_thingof k_thingof
  have b_thingof := F_thingof.binds (ps := ["word"]) fun _ _ _ _ _ _ us hl => match us, hl with | [_], _ => rfl
  have g_thingof := PySem.W.mg_of X G a_thingof
  have F_lawpot := fun_mk (st := sPot) l_lawpot c_lawpot k_lawpot
  have b_lawpot := F_lawpot.binds (ps := ["script", "at"]) fun _ _ _ _ _ _ us hl => match us, hl with | [_, _], _ => rfl
  have g_lawpot := PySem.W.mg_of X G a_lawpot
  have F_lawdip := fun_mk (st := sDip) l_lawdip c_lawdip k_lawdip
  have b_lawdip := F_lawdip.binds (ps := ["pot", "many"]) fun _ _ _ _ _ _ us hl => match us, hl with | [_, _], _ => rfl
  have g_lawdip := PySem.W.mg_of X G a_lawdip
  have F_lawboard := fun_mk (st := sBoard) l_lawboard c_lawboard k_lawboard
  have b_lawboard := F_lawboard.binds (ps := ["pot", "most"]) fun _ _ _ _ _ _ us hl => match us, hl with | [_, _], _ => rfl
  have g_lawboard := PySem.W.mg_of X G a_lawboard
  have F_lawcells := fun_mk (st := sCells) l_lawcells c_lawcells k_lawcells
  have b_lawcells := F_lawcells.binds (ps := ["board"]) fun _ _ _ _ _ _ us hl => match us, hl with | [_], _ => rfl
  have g_lawcells := PySem.W.mg_of X G a_lawcells
  have F_lawname := fun_mk (st := sName) l_lawname c_lawname k_lawname
  have b_lawname := F_lawname.binds (ps := ["style", "sign", "number"]) fun _ _ _ _ _ _ us hl => match us, hl with | [_, _, _], _ => rfl
  have g_lawname := PySem.W.mg_of X G a_lawname
  have F_lawnames := fun_mk (st := sNames) l_lawnames c_lawnames k_lawnames
  have b_lawnames := F_lawnames.binds (ps := ["pot", "many"]) fun _ _ _ _ _ _ us hl => match us, hl with | [_, _], _ => rfl
  have g_lawnames := PySem.W.mg_of X G a_lawnames
  have F_lawmixed := fun_mk (st := sMixed) l_lawmixed c_lawmixed k_lawmixed
  have b_lawmixed := F_lawmixed.binds (ps := ["pot", "things"]) fun _ _ _ _ _ _ us hl => match us, hl with | [_, _], _ => rfl
  have g_lawmixed := PySem.W.mg_of X G a_lawmixed
  have F_lawstanding := fun_mk (st := sStanding) l_lawstanding c_lawstanding k_lawstanding
  have b_lawstanding := F_lawstanding.binds (ps := ["pot", "many"]) fun _ _ _ _ _ _ us hl => match us, hl with | [_, _], _ => rfl
  have g_lawstanding := PySem.W.mg_of X G a_lawstanding
  have F_lawwords := fun_mk (st := sWords) l_lawwords c_lawwords k_lawwords
  have b_lawwords := F_lawwords.binds (ps := ["board", "standing"]) fun _ _ _ _ _ _ us hl => match us, hl with | [_, _], _ => rfl
  have g_lawwords := PySem.W.mg_of X G a_lawwords
  have F_lawthing := fun_mk (st := sThing) l_lawthing c_lawthing k_lawthing
  have b_lawthing := F_lawthing.binds (ps := ["word"]) fun _ _ _ _ _ _ us hl => match us, hl with | [_], _ => rfl
  have g_lawthing := PySem.W.mg_of X G a_lawthing
  have F_lawdue := fun_mk (st := sDue) l_lawdue c_lawdue k_lawdue
  have b_lawdue := F_lawdue.binds (ps := ["board", "text"]) fun _ _ _ _ _ _ us hl => match us, hl with | [_, _], _ => rfl
  have g_lawdue := PySem.W.mg_of X G a_lawdue
  have F_lawspoilt := fun_mk (st := sSpoilt) l_lawspoilt c_lawspoilt k_lawspoilt
  have b_lawspoilt := F_lawspoilt.binds (ps := ["pot", "words"]) fun _ _ _ _ _ _ us hl => match us, hl with | [_, _], _ => rfl
  have g_lawspoilt := PySem.W.mg_of X G a_lawspoilt
  have F_lawright := fun_mk (st := sRight) l_lawright c_lawright k_lawright
  have b_lawright := F_lawright.binds (ps := ["board", "text"]) fun _ _ _ _ _ _ us hl => match us, hl with | [_, _], _ => rfl
  have g_lawright := PySem.W.mg_of X G a_lawright
  have F_law := fun_mk (st := sLaw) l_law c_law k_law
  have m_range := PySem.W.mg_none_of X G z_range
  have m_max := PySem.W.mg_none_of X G z_max
  have m_min := PySem.W.mg_none_of X G z_min
  have m_len := PySem.W.mg_none_of X G z_len
  have m_int := PySem.W.mg_none_of X G z_int
  have m_list := PySem.W.mg_none_of X G z_list
  have m_tuple := PySem.W.mg_none_of X G z_tuple
  have m_all := PySem.W.mg_none_of X G z_all
  have m_enumerate := PySem.W.mg_none_of X G z_enumerate
  have m_repr := PySem.W.mg_none_of X G z_repr
  have m_isinstance := PySem.W.mg_none_of X G z_isinstance
  have m_bool := PySem.W.mg_none_of X G z_bool
  have m_ValueError := PySem.W.mg_none_of X G z_ValueError
  have q_MOST_LETTERS := PySem.W.mg_of X G g_MOST_LETTERS
  have q_LETTERS := PySem.W.mg_of X G g_LETTERS
  have T_NoStanding : SupTxt l.prog K sx_NoStanding "NoStanding.__init__" "at" msg_NoStanding C_NoStanding fI_NoStanding cc_NoStanding cda_NoStanding := ⟨⟨nm_NoStanding, qn_NoStanding, N_NoStanding, bs_NoStanding, bm_NoStanding, sn_NoStanding, sub_NoStanding, ab_NoStanding, col_NoStanding, dd_NoStanding, k0_NoStanding, k1_NoStanding, k2_NoStanding, k3_NoStanding, k5_NoStanding, x_NoStanding, hbm_NoStanding⟩, sa_NoStanding, ga_NoStanding, gg_NoStanding, no_NoStanding, iC_NoStanding, tI_NoStanding, kC_NoStanding, eC_NoStanding, vE_NoStanding, tC_NoStanding, hD_NoStanding, exm_self eC_NoStanding cI_NoStanding tC_NoStanding sC_NoStanding, op_NoStanding, mr_NoStanding, su_NoStanding, ns_NoStanding, ⟨soc_NoStanding, sod_NoStanding, skV_NoStanding, sdc_NoStanding, spm_NoStanding, san_NoStanding, sct_NoStanding, sosl_NoStanding, fn_NoStanding, fun _ _ _ => .of_eq rfl⟩, cd_NoStanding, ⟨ccl_NoStanding, cdd_NoStanding, va_NoStanding, vs_NoStanding, file_NoStanding, tf_NoStanding, co_NoStanding, vf_NoStanding, fi_NoStanding⟩, ⟨cl_NoStanding, cld_NoStanding, csl_NoStanding, ce_NoStanding⟩, tp_NoStanding⟩
  have gX_NoStanding := PySem.W.mg_of X G a_NoStanding
  have TI_NoStanding : IsTxt K C_NoStanding := ⟨cI_NoStanding, ga_NoStanding, gg_NoStanding, eC_NoStanding, ca_is, cn_is, ct_is, mo_is⟩
  have gX_StrideError := PySem.W.mg_of X G a_StrideError
  have hE_StrideError := exm_own eb_StrideError cI_StrideError tC_StrideError sb_StrideError
  have O_Barred : Other K mg C_NoStanding "Barred" C_Barred := ⟨PySem.W.mg_of X G a_Barred, kit_other sC_NoStanding cI_Barred tC_Barred sb_Barred⟩
  have O_Few : Other K mg C_NoStanding "Few" C_Few := ⟨PySem.W.mg_of X G a_Few, kit_other sC_NoStanding cI_Few tC_Few sb_Few⟩
  have O_Full : Other K mg C_NoStanding "Full" C_Full := ⟨PySem.W.mg_of X G a_Full, kit_other sC_NoStanding cI_Full tC_Full sb_Full⟩
  have O_NoBook : Other K mg C_NoStanding "NoBook" C_NoBook := ⟨PySem.W.mg_of X G a_NoBook, kit_other sC_NoStanding cI_NoBook tC_NoBook sb_NoBook⟩
  have O_NoDeed : Other K mg C_NoStanding "NoDeed" C_NoDeed := ⟨PySem.W.mg_of X G a_NoDeed, kit_other sC_NoStanding cI_NoDeed tC_NoDeed sb_NoDeed⟩
  have O_NoName : Other K mg C_NoStanding "NoName" C_NoName := ⟨PySem.W.mg_of X G a_NoName, kit_other sC_NoStanding cI_NoName tC_NoName sb_NoName⟩
  have O_NoPair : Other K mg C_NoStanding "NoPair" C_NoPair := ⟨PySem.W.mg_of X G a_NoPair, kit_other sC_NoStanding cI_NoPair tC_NoPair sb_NoPair⟩
  have O_NoPlan : Other K mg C_NoStanding "NoPlan" C_NoPlan := ⟨PySem.W.mg_of X G a_NoPlan, kit_other sC_NoStanding cI_NoPlan tC_NoPlan sb_NoPlan⟩
  have O_NoRound : Other K mg C_NoStanding "NoRound" C_NoRound := ⟨PySem.W.mg_of X G a_NoRound, kit_other sC_NoStanding cI_NoRound tC_NoRound sb_NoRound⟩
  have O_NotEven : Other K mg C_NoStanding "NotEven" C_NotEven := ⟨PySem.W.mg_of X G a_NotEven, kit_other sC_NoStanding cI_NotEven tC_NotEven sb_NotEven⟩
  have O_NoTurning : Other K mg C_NoStanding "NoTurning" C_NoTurning := ⟨PySem.W.mg_of X G a_NoTurning, kit_other sC_NoStanding cI_NoTurning tC_NoTurning sb_NoTurning⟩
  have O_TooMany : Other K mg C_NoStanding "TooMany" C_TooMany := ⟨PySem.W.mg_of X G a_TooMany, kit_other sC_NoStanding cI_TooMany tC_TooMany sb_TooMany⟩
  refine ⟨PySem.W.fnOf "law" "law" (defArgs sLaw) (defBody sLaw) (defScope sLaw) .none kV_law dc_law pm_law an_law cd_law ct_law, fun s v => .of_eq rfl, fun base _ _ => ?_⟩
  have D__law_pot : Def l.prog w K mg base 1 "_law_pot" ["script", "at"] _ f_lawpot _ := ⟨ok_pot F_lawpot m_len m_max, g_lawpot, F_lawpot.kp, b_lawpot⟩
  have D__law_dip : Def l.prog w K mg base 1 "_law_dip" ["pot", "many"] _ f_lawdip _ := ⟨ok_dip F_lawdip, g_lawdip, F_lawdip.kp, b_lawdip⟩
  have D__law_board : Def l.prog w K mg base 2 "_law_board" ["pot", "most"] _ f_lawboard _ := ⟨ok_board F_lawboard D__law_dip, g_lawboard, F_lawboard.kp, b_lawboard⟩
  have D__law_cells : Def l.prog w K mg base 1 "_law_cells" ["board"] _ f_lawcells _ := ⟨ok_cells F_lawcells, g_lawcells, F_lawcells.kp, b_lawcells⟩
  have D__law_name : Def l.prog w K mg base 1 "_law_name" ["style", "sign", "number"] _ f_lawname _ := ⟨ok_name F_lawname m_int, g_lawname, F_lawname.kp, b_lawname⟩
  have D__law_names : Def l.prog w K mg base 2 "_law_names" ["pot", "many"] _ f_lawnames _ := ⟨ok_names F_lawnames D__law_dip D__law_name m_max m_range, g_lawnames, F_lawnames.kp, b_lawnames⟩
  have D__law_mixed : Def l.prog w K mg base 2 "_law_mixed" ["pot", "things"] _ f_lawmixed _ := ⟨ok_mixed F_lawmixed D__law_dip m_list m_len m_range, g_lawmixed, F_lawmixed.kp, b_lawmixed⟩
  have D__law_standing : Def l.prog w K mg base 3 "_law_standing" ["pot", "many"] _ f_lawstanding _ := ⟨ok_standing F_lawstanding D__law_dip D__law_names D__law_mixed m_tuple, g_lawstanding, F_lawstanding.kp, b_lawstanding⟩
  have D_high_and_wide : Def l.prog w K mg base 1 "high_and_wide" ["board"] _ f_highandwide _ := ⟨ok_high F_highandwide, g_highandwide, F_highandwide.kp, b_highandwide⟩
  have D_is_name : Def l.prog w K mg base 1 "is_name" ["word"] _ f_isname _ := ⟨ok_isName F_isname m_len m_all q_MOST_LETTERS q_LETTERS, g_isname, F_isname.kp, b_isname⟩
  have D__thing_of : Def l.prog w K mg base 1 "_thing_of" ["word"] _ f_thingof _ := ⟨ok_thingOf F_thingof, g_thingof, F_thingof.kp, b_thingof⟩
  have D__is_due : Def l.prog w K mg base 2 "_is_due" ["word", "at", "wide"] _ f_isdue _ := ⟨ok_isDue F_isdue D__thing_of D_is_name, g_isdue, F_isdue.kp, b_isdue⟩
  have D_read_standing : DefX l.prog w K mg base 4 "read_standing" ["board", "text"] _ f_readstanding _ := ⟨ok_read F_readstanding D_high_and_wide D__thing_of D__is_due m_enumerate m_len m_tuple T_NoStanding tx_NoStanding mx_NoStanding gX_NoStanding, g_readstanding, F_readstanding.kp, b_readstanding⟩
  have D__law_words : Def l.prog w K mg base 1 "_law_words" ["board", "standing"] _ f_lawwords _ := ⟨ok_words F_lawwords m_range m_len, g_lawwords, F_lawwords.kp, b_lawwords⟩
  have D__law_thing : Def l.prog w K mg base 1 "_law_thing" ["word"] _ f_lawthing _ := ⟨ok_lthing F_lawthing m_int m_len, g_lawthing, F_lawthing.kp, b_lawthing⟩
  have D__law_due : Def l.prog w K mg base 2 "_law_due" ["board", "text"] _ f_lawdue _ := ⟨ok_due F_lawdue D__law_cells D__law_thing m_range m_len m_int m_tuple, g_lawdue, F_lawdue.kp, b_lawdue⟩
  have D__law_spoilt : Def l.prog w K mg base 2 "_law_spoilt" ["pot", "words"] _ f_lawspoilt _ := ⟨ok_spoilt F_lawspoilt D__law_dip m_len, g_lawspoilt, F_lawspoilt.kp, b_lawspoilt⟩
  have D__law_right : DefG l.prog w K mg base 5 "_law_right" ["board", "text"] _ f_lawright _ := ⟨ok_right F_lawright D_read_standing D__law_due T_NoStanding TI_NoStanding gX_NoStanding gX_StrideError hE_StrideError O_Barred O_Few O_Full O_NoBook O_NoDeed O_NoName O_NoPair O_NoPlan O_NoRound O_NotEven O_NoTurning O_TooMany m_isinstance m_int m_bool m_ValueError m_repr, g_lawright, F_lawright.kp, b_lawright⟩
  exact ok_law F_law D__law_pot D__law_dip D__law_board D__law_cells D__law_standing D__law_words D__law_spoilt D__law_right m_range m_max m_min m_len
end L_k03
open PySem PySem.W PyProof.Rows
set_option maxHeartbeats 0 in
theorem PySem.Challenge.cw_stridelots_k03_texts_of_no_standing_holds : PySem.Challenge.rw_stridelots_k03_texts_of_no_standing.Holds := by
  w_on; o_law; k_head; (case hw => w_witness2)
  k_fill
  refine Lot.walk_g (l := PySem.Challenge.rw_stridelots_k03_texts_of_no_standing) (n := 63) (k := 6) (x := "script") (CX := fun _ => L2.CX0) (sp := fun w => L_k03.spLaw _) rfl (by decide) rfl ⟨rfl, by decide, by decide⟩ (fun w h Y => PySem.W.kIn_of Y) ?F (fun _ _ a ns hl _ hS => ⟨a, ns, rfl, hS, hl, fun _ => rfl⟩) (fun _ _ _ _ _ h => h)
  case F =>
    intro w mg fa h KX G hmg
    refine' L_k03.all_mk KX G hmg ?a_highandwide ?l_highandwide ?c_highandwide ?k_highandwide ?a_readstanding ?l_readstanding ?c_readstanding ?k_readstanding ?a_isname ?l_isname ?c_isname ?k_isname ?a_isdue ?l_isdue ?c_isdue ?k_isdue ?a_thingof ?l_thingof ?c_thingof ?k_thingof ?a_lawpot ?l_lawpot ?c_lawpot ?k_lawpot ?a_lawdip ?l_lawdip ?c_lawdip ?k_lawdip ?a_lawboard ?l_lawboard ?c_lawboard ?k_lawboard ?a_lawcells ?l_lawcells ?c_lawcells ?k_lawcells ?a_lawname ?l_lawname ?c_lawname ?k_lawname ?a_lawnames ?l_lawnames ?c_lawnames ?k_lawnames ?a_lawmixed ?l_lawmixed ?c_lawmixed ?k_lawmixed ?a_lawstanding ?l_lawstanding ?c_lawstanding ?k_lawstanding ?a_lawwords ?l_lawwords ?c_lawwords ?k_lawwords ?a_lawthing ?l_lawthing ?c_lawthing ?k_lawthing ?a_lawdue ?l_lawdue ?c_lawdue ?k_lawdue ?a_lawspoilt ?l_lawspoilt ?c_lawspoilt ?k_lawspoilt ?a_lawright ?l_lawright ?c_lawright ?k_lawright ?a_law ?l_law ?c_law ?k_law ?z_range ?z_max ?z_min ?z_len ?z_int ?z_list ?z_tuple ?z_all ?z_enumerate ?z_repr ?z_isinstance ?z_bool ?z_ValueError ?g_MOST_LETTERS ?g_LETTERS ?a_NoStanding ?x_NoStanding ?hbm_NoStanding ?sa_NoStanding ?ga_NoStanding ?gg_NoStanding ?no_NoStanding ?iC_NoStanding ?tI_NoStanding ?kC_NoStanding ?eC_NoStanding ?vE_NoStanding ?tC_NoStanding ?hD_NoStanding ?cI_NoStanding ?sC_NoStanding ?op_NoStanding ?mr_NoStanding ?su_NoStanding ?ns_NoStanding ?fn_NoStanding ?cd_NoStanding ?co_NoStanding ?vf_NoStanding ?fi_NoStanding ?ce_NoStanding ?tp_NoStanding ?ca_is ?cn_is ?ct_is ?mo_is ?a_StrideError ?cI_StrideError ?tC_StrideError ?sb_StrideError ?a_Barred ?cI_Barred ?tC_Barred ?sb_Barred ?a_Few ?cI_Few ?tC_Few ?sb_Few ?a_Full ?cI_Full ?tC_Full ?sb_Full ?a_NoBook ?cI_NoBook ?tC_NoBook ?sb_NoBook ?a_NoDeed ?cI_NoDeed ?tC_NoDeed ?sb_NoDeed ?a_NoName ?cI_NoName ?tC_NoName ?sb_NoName ?a_NoPair ?cI_NoPair ?tC_NoPair ?sb_NoPair ?a_NoPlan ?cI_NoPlan ?tC_NoPlan ?sb_NoPlan ?a_NoRound ?cI_NoRound ?tC_NoRound ?sb_NoRound ?a_NotEven ?cI_NotEven ?tC_NotEven ?sb_NotEven ?a_NoTurning ?cI_NoTurning ?tC_NoTurning ?sb_NoTurning ?a_TooMany ?cI_TooMany ?tC_TooMany ?sb_TooMany ?eb_StrideError
    (case a_highandwide => k_is); (case l_highandwide => k_is); (case c_highandwide => k_is); (case k_highandwide => k_is); (case a_readstanding => k_is); (case l_readstanding => k_is); (case c_readstanding => k_is); (case k_readstanding => k_is); (case a_isname => k_is); (case l_isname => k_is); (case c_isname => k_is); (case k_isname => k_is); (case a_isdue => k_is); (case l_isdue => k_is); (case c_isdue => k_is); (case k_isdue => k_is); (case a_thingof => k_is); (case l_thingof => k_is); (case c_thingof => k_is); (case k_thingof => k_is); (case a_lawpot => k_is); (case l_lawpot => k_is); (case c_lawpot => k_is); (case k_lawpot => k_is); (case a_lawdip => k_is); (case l_lawdip => k_is); (case c_lawdip => k_is); (case k_lawdip => k_is); (case a_lawboard => k_is); (case l_lawboard => k_is); (case c_lawboard => k_is); (case k_lawboard => k_is); (case a_lawcells => k_is); (case l_lawcells => k_is); (case c_lawcells => k_is); (case k_lawcells => k_is); (case a_lawname => k_is); (case l_lawname => k_is); (case c_lawname => k_is); (case k_lawname => k_is); (case a_lawnames => k_is); (case l_lawnames => k_is); (case c_lawnames => k_is); (case k_lawnames => k_is); (case a_lawmixed => k_is); (case l_lawmixed => k_is); (case c_lawmixed => k_is); (case k_lawmixed => k_is); (case a_lawstanding => k_is); (case l_lawstanding => k_is); (case c_lawstanding => k_is); (case k_lawstanding => k_is); (case a_lawwords => k_is); (case l_lawwords => k_is); (case c_lawwords => k_is); (case k_lawwords => k_is); (case a_lawthing => k_is); (case l_lawthing => k_is); (case c_lawthing => k_is); (case k_lawthing => k_is); (case a_lawdue => k_is); (case l_lawdue => k_is); (case c_lawdue => k_is); (case k_lawdue => k_is); (case a_lawspoilt => k_is); (case l_lawspoilt => k_is); (case c_lawspoilt => k_is); (case k_lawspoilt => k_is); (case a_lawright => k_is); (case l_lawright => k_is); (case c_lawright => k_is); (case k_lawright => k_is); (case a_law => k_is); (case l_law => k_is); (case c_law => k_is); (case k_law => k_is); (case z_range => k_is); (case z_max => k_is); (case z_min => k_is); (case z_len => k_is); (case z_int => k_is); (case z_list => k_is); (case z_tuple => k_is); (case z_all => k_is); (case z_enumerate => k_is); (case z_repr => k_is); (case z_isinstance => k_is); (case z_bool => k_is); (case z_ValueError => k_is); (case g_MOST_LETTERS => k_is); (case g_LETTERS => k_is); (case a_NoStanding => k_is); (case x_NoStanding => k_is); (case hbm_NoStanding => first | rfl | decide +kernel); (case sa_NoStanding => k_is); (case ga_NoStanding => k_is); (case gg_NoStanding => k_is); (case no_NoStanding => k_is); (case iC_NoStanding => k_is); (case tI_NoStanding => k_is); (case kC_NoStanding => k_is); (case eC_NoStanding => k_is); (case vE_NoStanding => k_is); (case tC_NoStanding => k_is); (case hD_NoStanding => k_is); (case cI_NoStanding => k_is); (case sC_NoStanding => first | rfl | k_is); (case op_NoStanding => k_is); (case mr_NoStanding => k_is); (case su_NoStanding => ks_is); (case ns_NoStanding => k_is); (case fn_NoStanding => k_is); (case cd_NoStanding => k_is); (case co_NoStanding => k_is); (case vf_NoStanding => first | rfl | decide +kernel); (case fi_NoStanding => first | rfl | decide +kernel); (case ce_NoStanding => k_is); (case tp_NoStanding => first | rfl | decide +kernel); (case ca_is => first | k_is | rfl | decide +kernel); (case cn_is => first | k_is | rfl | decide +kernel); (case ct_is => first | k_is | rfl | decide +kernel); (case mo_is => first | k_is | rfl | decide +kernel); (case a_StrideError => k_is); (case cI_StrideError => k_is); (case tC_StrideError => k_is); (case sb_StrideError => first | rfl | k_is); (case a_Barred => k_is); (case cI_Barred => k_is); (case tC_Barred => k_is); (case sb_Barred => first | rfl | k_is); (case a_Few => k_is); (case cI_Few => k_is); (case tC_Few => k_is); (case sb_Few => first | rfl | k_is); (case a_Full => k_is); (case cI_Full => k_is); (case tC_Full => k_is); (case sb_Full => first | rfl | k_is); (case a_NoBook => k_is); (case cI_NoBook => k_is); (case tC_NoBook => k_is); (case sb_NoBook => first | rfl | k_is); (case a_NoDeed => k_is); (case cI_NoDeed => k_is); (case tC_NoDeed => k_is); (case sb_NoDeed => first | rfl | k_is); (case a_NoName => k_is); (case cI_NoName => k_is); (case tC_NoName => k_is); (case sb_NoName => first | rfl | k_is); (case a_NoPair => k_is); (case cI_NoPair => k_is); (case tC_NoPair => k_is); (case sb_NoPair => first | rfl | k_is); (case a_NoPlan => k_is); (case cI_NoPlan => k_is); (case tC_NoPlan => k_is); (case sb_NoPlan => first | rfl | k_is); (case a_NoRound => k_is); (case cI_NoRound => k_is); (case tC_NoRound => k_is); (case sb_NoRound => first | rfl | k_is); (case a_NotEven => k_is); (case cI_NotEven => k_is); (case tC_NotEven => k_is); (case sb_NotEven => first | rfl | k_is); (case a_NoTurning => k_is); (case cI_NoTurning => k_is); (case tC_NoTurning => k_is); (case sb_NoTurning => first | rfl | k_is); (case a_TooMany => k_is); (case cI_TooMany => k_is); (case tC_TooMany => k_is); (case sb_TooMany => first | rfl | k_is); (case eb_StrideError => k_is)

