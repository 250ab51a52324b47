import PyProof.Rows.All
import Wide.All
import OpenK.AllK
import Wide.FinOn
import PySem.Challenge.RW_stridelots_k58_signs_of_names
import HandS.Base
import HandS.Call
import HandS.List
import HandS.Comp
import HandS.Ends
import HandS.Dict
import HandS.Iter
import HandS.Text
import HandS.Words
import HandS.WordsList
import HandS.Wide
import HandS.FStr
import PyProof.StrOps2
import HandS.Codes
import HandS.Walk
import PyProof.ReprRoads
import HandS.FStrTup
import KE.KExcSuper
import HandS.ExcInit
import HandS.ExcOwn
import HandS.ExcSuper
import HandS.ForExc
import HandS.WordsExc
import HandS.TryOnly
import PyProof.ListStr
import HandS.Conv
import HandS.IsInst
set_option Elab.async false
set_option linter.all false
set_option maxRecDepth 100000
set_option maxHeartbeats 4000000
/-! Common to all rows: powers of great ints, heaps that keep all but one place, pots. -/
namespace Lot
open PySem PySem.Spec PyProof.Rows L2
theorem iteP {b : Bool} {A B : Prop} (hb : b = true) (h : A) : if b = true then A else B := by
  rw [if_pos hb]; exact h
theorem iteN {b : Bool} {A B : Prop} (hb : b = false) (h : B) : if b = true then A else B := by
  rw [hb, if_neg Bool.false_ne_true]; exact h
/-! ### powers -/
def CPowW (i j : Int) : Prop := 0 ≤ j ∧ j ≤ 10 ∧ i.natAbs < 2 ^ 200
theorem CPowW.bits {i j : Int} (h : CPowW i j) : (Builtin.Int.intBits i : Int) * j ≤ 2 ^ 27 := by
  obtain ⟨h0, h1, h2⟩ := h
  have hb : Builtin.Int.intBits i ≤ 201 := by
    unfold Builtin.Int.intBits
    have := PySem.Flt.log2_lt_of (by decide : 0 < 200) h2
    split <;> omega
  have h3 : (Builtin.Int.intBits i : Int) * j ≤ 201 * j := Int.mul_le_mul_of_nonneg_right (by omega) h0
  omega
theorem op_powW {X : Cx} : OpR X (binaryOp .Pow) (rI CPowW fun i j => .int (i ^ j.toNat)) := opI fun _ _ _ _ _ _ _ hc q => pow_int hc.1 hc.bits q
/-! ### heaps -/
theorem same_upd {H : Hp} {p : Addr} {o : HO} (h : H p = none) : Same H (upd H p o) := fun b x e => by
  rw [upd_ne (ne_of_none e h)]
  exact e
/-- all that is tracked stays, but for p -/
def But (p : Addr) (H H' : Hp) : Prop := ∀ b o, b ≠ p → H b = some o → H' b = some o
theorem But.refl {p : Addr} {H : Hp} : But p H H := fun _ _ _ h => h
theorem But.trans {p : Addr} {H H1 H2 : Hp} (a : But p H H1) (b : But p H1 H2) : But p H H2 := fun c o n h => b c o n (a c o n h)
theorem But.upd {p : Addr} {H : Hp} {o : HO} : But p H (upd H p o) := fun b x n e => by
  rw [upd_ne n]
  exact e
theorem But.of_same {p : Addr} {H H' : Hp} (h : Same H H') : But p H H' := fun b o _ e => h b o e
theorem But.seq {K : PySem.W.Frag} {p : Addr} {H H' : Hp} {a : Addr} {xs : List V} (e : But p H H') (n : a ≠ p) (h : SqL K H a xs) : SqL K H' a xs := by
  rcases h with (h | ⟨o, h⟩) | h
  · exact .inl (.inl (e _ _ n h))
  · exact .inl (.inr ⟨o, e _ _ n h⟩)
  · exact .inr h
/-! ### pots -/
def PotV (N : Nat) (vs : List V) : Prop := ∃ a c n : Int, vs = [.int a, .int c, .int n] ∧ 0 ≤ a ∧ 0 ≤ c ∧ c < 10 ^ 39 ∧ 0 ≤ n ∧ n ≤ (N : Int)
/-- at p stands a pot of which at most N draws were taken -/
def PotAt (H : Hp) (p : Addr) (N : Nat) : Prop := ∃ vs, H p = some (.lst vs) ∧ PotV N vs
theorem PotV.mono {N M : Nat} {vs : List V} (h : PotV N vs) (le : N ≤ M) : PotV M vs := by
  obtain ⟨a, c, n, e, h1, h2, h3, h4, h5⟩ := h
  exact ⟨a, c, n, e, h1, h2, h3, h4, by omega⟩
theorem PotAt.mono {H : Hp} {p : Addr} {N M : Nat} (h : PotAt H p N) (le : N ≤ M) : PotAt H p M := by
  obtain ⟨vs, e, h⟩ := h
  exact ⟨vs, e, h.mono le⟩
theorem PotAt.same {H H' : Hp} {p : Addr} {N : Nat} (h : PotAt H p N) (s : Same H H') : PotAt H' p N := by
  obtain ⟨vs, e, h⟩ := h
  exact ⟨vs, s _ _ e, h⟩
theorem PotAt.ne {H : Hp} {p : Addr} {N : Nat} (h : PotAt H p N) {q : Addr} (e : H q = none) : q ≠ p := fun z => by
  obtain ⟨vs, f, _⟩ := h
  rw [z] at e; rw [e] at f; cases f
theorem PotAt.upd {H : Hp} {p : Addr} {N : Nat} {vs : List V} (h : PotV N vs) : PotAt (L2.upd H p (.lst vs)) p N := ⟨vs, upd_same, h⟩
theorem PotAt.updne {H : Hp} {p q : Addr} {N : Nat} {o : HO} (h : PotAt H p N) (n : p ≠ q) : PotAt (L2.upd H q o) p N := by
  obtain ⟨vs, e, h⟩ := h
  exact ⟨vs, by rw [upd_ne n]; exact e, h⟩
theorem int_lt_pow {i : Int} {k : Nat} (h0 : 0 ≤ i) (h : i < 2 ^ k) : i.natAbs < 2 ^ k := by
  have e : ((i.natAbs : Nat) : Int) = i := Int.natAbs_of_nonneg h0
  have h2 : ((i.natAbs : Nat) : Int) < ((2 ^ k : Nat) : Int) := by
    rw [e, Int.natCast_pow]; exact h
  exact Int.ofNat_lt.mp h2
theorem modlt {a b : Int} (h : 0 < b) : 0 ≤ a % b ∧ a % b < b := ⟨Int.emod_nonneg _ (by omega), Int.emod_lt_of_pos _ h⟩
/-! ### boards -/
inductive Bd where
  | row (n : Nat) | ring (n : Nat) | floor (h w : Nat)
def Bd.vals : Bd → List V
  | .row n => [.str "row", .int n]
  | .ring n => [.str "ring", .int n]
  | .floor h w => [.str "floor", .int h, .int w]
def Bd.Ok (most : Nat) : Bd → Prop
  | .row n => 3 ≤ n ∧ n ≤ most
  | .ring n => 5 ≤ n ∧ n ≤ most
  | .floor h w => 1 ≤ h ∧ 1 ≤ w ∧ h * w ≤ most
def Bd.high : Bd → Nat
  | .floor h _ => h
  | _ => 1
def Bd.wide : Bd → Nat
  | .row n => n
  | .ring n => n
  | .floor _ w => w
def Bd.cells (b : Bd) : Nat := b.high * b.wide
/-! ### a def of the text, ready to be called -/
structure Def (P : Program) (w : World) (K : PySem.W.Frag) (mg : Str → Option Value) (base : Heap) (k : Nat) (x : Str) (ps : List Str) (sp : Sp) (f : Addr) (fd : FuncData) : Prop where
  ok : FnOk P w K mg base CX0 k f fd ps sp
  g : mg x = some (.ref f)
  kp : PySem.W.keepIn K (.ref f) = true
  b : Binds K fd ps []
end Lot
namespace Lot
open PySem PySem.Spec PyProof.Rows L2
theorem same_new {H H' : Hp} {D : Addr} {o : HO} (s : Same H H') (n : H D = none) : Same H (upd H' D o) := fun b x e => by
  rw [upd_ne (ne_of_none e n)]
  exact s _ _ e
theorem But.new {p : Addr} {H H' : Hp} {D : Addr} {o : HO} (s : But p H H') (n : H D = none) : But p H (L2.upd H' D o) := fun b x hb e => by
  rw [upd_ne (ne_of_none e n)]
  exact s _ _ hb e
/-- an object that is not the pot's stood nowhere before -/
theorem But.free {p : Addr} {H H' : Hp} {b : Addr} (B : But p H H') (hb : b ≠ p) (h : H' b = none) : H b = none := by
  cases z : H b with
  | none => rfl
  | some o => rw [B b o hb z] at h; cases h
theorem PotAt.is {H : Hp} {p : Addr} {N : Nat} (h : PotAt H p N) : ∃ vs, H p = some (.lst vs) := by
  obtain ⟨vs, e, _⟩ := h
  exact ⟨vs, e⟩
theorem perm_erase {α : Type} : ∀ {l : List α} {k : Nat} {x : α}, l[k]? = some x → List.Perm (x :: l.eraseIdx k) l
  | [], k, x, h => by simp at h
  | a :: l, 0, x, h => by
    have e : a = x := Option.some.inj h
    subst e
    exact List.Perm.refl _
  | a :: l, k + 1, x, h => by
    have ih := perm_erase (l := l) (k := k) (x := x) h
    show List.Perm (x :: a :: l.eraseIdx k) (a :: l)
    exact (List.Perm.swap _ _ _).trans (List.Perm.cons a ih)
/-! ### things -/
def thing (t : Str × Nat) : List V := [.str t.1, .int t.2]
def Things (H : Hp) : List Addr → List (Str × Nat) → Prop
  | [], [] => True
  | a :: as, t :: ts => H a = some (.tup (thing t)) ∧ Things H as ts
  | _, _ => False
theorem Things.same {H H' : Hp} (s : Same H H') : ∀ {as : List Addr} {ts : List (Str × Nat)}, Things H as ts → Things H' as ts
  | [], [], _ => trivial
  | a :: as, t :: ts, h => ⟨s _ _ h.1, Things.same s h.2⟩
  | [], _ :: _, h => h.elim
  | _ :: _, [], h => h.elim
theorem Things.but {p : Addr} {H H' : Hp} (s : But p H H') (hp : ∃ vs, H p = some (.lst vs)) : ∀ {as : List Addr} {ts : List (Str × Nat)}, Things H as ts → Things H' as ts
  | [], [], _ => trivial
  | a :: as, t :: ts, h => ⟨s _ _ (fun z => by
      obtain ⟨vs, e⟩ := hp
      have := h.1
      rw [z, e] at this
      cases this) h.1, Things.but s hp h.2⟩
  | [], _ :: _, h => h.elim
  | _ :: _, [], h => h.elim
theorem Things.length {H : Hp} : ∀ {as : List Addr} {ts : List (Str × Nat)}, Things H as ts → as.length = ts.length
  | [], [], _ => rfl
  | a :: as, t :: ts, h => by
    rw [List.length_cons, List.length_cons, Things.length h.2]
  | [], _ :: _, h => h.elim
  | _ :: _, [], h => h.elim
theorem Things.get {H : Hp} : ∀ {as : List Addr} {ts : List (Str × Nat)} {i : Nat} {t : Str × Nat}, Things H as ts → ts[i]? = some t → ∃ a, as[i]? = some a ∧ H a = some (.tup (thing t))
  | [], [], i, t, _, e => by simp at e
  | a :: as, u :: ts, 0, t, h, e => by
    have e' : u = t := Option.some.inj e
    subst e'
    exact ⟨a, rfl, h.1⟩
  | a :: as, u :: ts, i + 1, t, h, e => Things.get (i := i) h.2 e
  | [], _ :: _, _, _, h, _ => h.elim
  | _ :: _, [], _, _, h, _ => h.elim
theorem Things.snoc {H : Hp} {b : Addr} {u : Str × Nat} (hb : H b = some (.tup (thing u))) : ∀ {as : List Addr} {ts : List (Str × Nat)}, Things H as ts → Things H (as ++ [b]) (ts ++ [u])
  | [], [], _ => ⟨hb, trivial⟩
  | a :: as, t :: ts, h => ⟨h.1, Things.snoc hb h.2⟩
  | [], _ :: _, h => h.elim
  | _ :: _, [], h => h.elim
/-- a standing at t: its things -/
def StandAt (H : Hp) (t : Addr) (ths : List (Str × Nat)) : Prop := ∃ as : List Addr, H t = some (.tup (as.map V.ref)) ∧ Things H as ths
theorem StandAt.same {H H' : Hp} {t : Addr} {ths : List (Str × Nat)} (h : StandAt H t ths) (s : Same H H') : StandAt H' t ths := by
  obtain ⟨as, e, g⟩ := h
  exact ⟨as, s _ _ e, g.same s⟩
theorem StandAt.but {p : Addr} {H H' : Hp} {t : Addr} {ths : List (Str × Nat)} (h : StandAt H t ths) (s : But p H H') (hp : ∃ vs, H p = some (.lst vs)) : StandAt H' t ths := by
  obtain ⟨as, e, g⟩ := h
  refine ⟨as, s _ _ (fun z => ?_) e, g.but s hp⟩
  obtain ⟨vs, f⟩ := hp
  rw [z, f] at e
  cases e
end Lot
namespace Lot
open PySem PySem.Spec PyProof.Rows L2
theorem same_but {p : Addr} {H H1 H2 : Hp} (s : Same H H1) (hp : H p = none) (b : But p H1 H2) : Same H H2 := fun c o e => b c o (ne_of_none e hp) (s _ _ e)
theorem Bd.cells_le {bd : Bd} (ok : bd.Ok 36) : 1 ≤ bd.cells ∧ bd.cells ≤ 36 := by
  cases bd with
  | row n => rw [show (Bd.row n).cells = n from Nat.one_mul n]; exact ⟨by have := ok.1; omega, ok.2⟩
  | ring n => rw [show (Bd.ring n).cells = n from Nat.one_mul n]; exact ⟨by have := ok.1; omega, ok.2⟩
  | floor h w => exact ⟨Nat.mul_pos ok.1 ok.2.1, ok.2.2⟩
end Lot

namespace Lot
open PySem PySem.Spec PyProof.Rows L2
/-! ### texts many times -/
def rRepS : R2 := fun x y H Q => ∃ (z : Str) (k : Int), x = .str z ∧ y = .int k ∧ 0 ≤ k ∧ k ≤ 1000 ∧ z.length ≤ 1000 ∧ ∀ r : Str, r.cps.toList = (List.replicate k.toNat z.cps.toList).flatten → Q (.str r) H
theorem foldl_arr : ∀ (l : List (Array Nat)) (a : Array Nat), (l.foldl (· ++ ·) a).toList = a.toList ++ (l.map (·.toList)).flatten
  | [], a => by simp
  | x :: l, a => by
    rw [List.foldl_cons, foldl_arr l (a ++ x)]
    simp [List.append_assoc]
theorem op_repS {X : Cx} : OpR X (binaryOp .Mult) rRepS := by
  intro pins s σ H x y v u Q I rx ry h
  obtain ⟨z, k, rfl, rfl, h0, h1, hz, q⟩ := h
  obtain ⟨t, rfl⟩ := rx
  obtain ⟨t', rfl⟩ := ry
  refine PySem.P.mul_str ?_ ?_ ?_ ?_
  · rw [decide_eq_false (by omega), decide_eq_false (by omega)]; rfl
  · intro a _ b
    have : (2 ^ 63 - 1 : Int) / k ≥ 1000 := by
      have := (Int.le_ediv_iff_mul_le (a := 1000) (b := 2 ^ 63 - 1) (c := k) (by omega)).mpr (by omega)
      omega
    omega
  · intro _ _
    unfold Builtin.Str.tooLong
    have e : z.length * k.toNat ≤ 1000 * 1000 := Nat.mul_le_mul hz (by omega)
    have e2 : 1000 * 1000 < sizeLine := by decide
    simp only [decide_eq_false_iff_not]
    omega
  · by_cases c : k < 1
    · rw [if_pos c]
      refine ⟨by decide, .str Str.empty, H, I.tok _, ⟨_, rfl⟩, q _ ?_⟩
      have : k.toNat = 0 := by omega
      rw [this]
      rfl
    · rw [if_neg c]
      by_cases c2 : (k == 1 || z.length == 0) = true
      · rw [if_pos c2]
        refine ⟨.str z, H, I, ⟨t, rfl⟩, q _ ?_⟩
        rw [Bool.or_eq_true] at c2
        rcases c2 with c2 | c2
        · have : k = 1 := by simpa using c2
          subst this
          show z.cps.toList = (List.replicate 1 z.cps.toList).flatten
          simp
        · have : z.cps.toList = [] := by
            have : z.cps.size = 0 := by simpa [Str.length] using c2
            exact List.eq_nil_of_length_eq_zero (by simpa using this)
          rw [this]
          simp
      · rw [if_neg c2]
        refine ⟨?_, .str ⟨(List.replicate k.toNat z.cps).foldl (· ++ ·) #[]⟩, H, I.tok _, ⟨_, rfl⟩, q _ ?_⟩
        · have e : (⟨(List.replicate k.toNat z.cps).foldl (· ++ ·) #[]⟩ : Str).length = k.toNat * z.length := by
            show ((List.replicate k.toNat z.cps).foldl (· ++ ·) #[]).size = _
            rw [← Array.length_toList, foldl_arr]
            have hz : z.length = z.cps.toList.length := by simp [Str.length]
            rw [hz]
            have : ∀ n : Nat, ((#[] : Array Nat).toList ++ ((List.replicate n z.cps).map (·.toList)).flatten).length = n * z.cps.toList.length := fun n => by
              induction n with
              | zero => simp
              | succ n ih =>
                rw [List.replicate_succ, List.map_cons, List.flatten_cons, Nat.succ_mul, ← ih]
                simp
                omega
            exact this _
          rw [e]
          have e : k.toNat * z.length ≤ 1000 * 1000 := Nat.mul_le_mul (by omega) hz
          have e2 : 1000 * 1000 < sizeLine := by decide
          omega
        · rw [foldl_arr]
          simp
/-! ### names -/
/-- as a name: n letters a to z -/
def Abc (n : Nat) (z : Str) : Prop := z.length = n ∧ ∀ c ∈ z.cps.toList, 97 ≤ c ∧ c ≤ 122
theorem Abc.app {n m : Nat} {a b : Str} (h : Abc n a) (g : Abc m b) : Abc (n + m) (a ++ b) := by
  refine ⟨?_, ?_⟩
  · show (a.cps ++ b.cps).size = _
    rw [Array.size_append]
    have h1 : a.cps.size = n := h.1
    have g1 : b.cps.size = m := g.1
    omega
  · intro c hc
    have : c ∈ (a.cps ++ b.cps).toList := hc
    rw [Array.toList_append, List.mem_append] at this
    exact this.elim (h.2 c) (g.2 c)
theorem Abc.rep {n k : Nat} {a r : Str} (h : Abc n a) (e : r.cps.toList = (List.replicate k a.cps.toList).flatten) : Abc (n * k) r := by
  have h1 : a.cps.toList.length = n := by simpa [Str.length] using h.1
  refine ⟨?_, ?_⟩
  · show r.cps.size = _
    rw [← Array.length_toList, e]
    clear e
    induction k with
    | zero => rfl
    | succ k ih => rw [List.replicate_succ, List.flatten_cons, List.length_append, ih, h1, Nat.mul_succ, Nat.add_comm]
  · intro c hc
    rw [e] at hc
    obtain ⟨l, hl, hc⟩ := List.mem_flatten.mp hc
    exact h.2 c ((List.mem_replicate.mp hl).2 ▸ hc)
theorem Abc.one {c : Nat} (h1 : 97 ≤ c) (h2 : c ≤ 122) : Abc 1 ⟨#[c]⟩ := ⟨rfl, fun d hd => by
  have : d = c := by simpa using hd
  omega⟩
def NameOk (z : Str) : Prop := 1 ≤ z.length ∧ z.length ≤ 4 ∧ ∀ c ∈ z.cps.toList, 97 ≤ c ∧ c ≤ 122
theorem Abc.name {n : Nat} {z : Str} (h : Abc n z) (h1 : 1 ≤ n) (h4 : n ≤ 4) : NameOk z := ⟨by rw [h.1]; exact h1, by rw [h.1]; exact h4, h.2⟩
/-- the letters -/
def abc : Str := "abcdefghijklmnopqrstuvwxyz"
theorem abc_list : abc.cps.toList = (List.range 26).map (97 + ·) := by decide +kernel
theorem abc_len : abc.length = 26 := by decide +kernel
theorem abc_at {i : Int} (h0 : 0 ≤ i) (h1 : i < 26) : atI abc.cps.toList i = some (97 + i.toNat) := by
  have e : i = ((i.toNat : Nat) : Int) := (Int.toNat_of_nonneg h0).symm
  rw [e]
  refine atI_nat ?_
  rw [abc_list, List.getElem?_map, List.getElem?_range (by omega)]
  rfl
end Lot
namespace Lot
open PySem PySem.Spec PyProof.Rows L2
theorem abc_cut : ∀ s : Nat, s < 26 → cutS abc (some (s : Int)) (some ((s : Int) + 1)) = ⟨#[97 + s]⟩ := by decide +kernel
theorem Abc.le2 {n m : Nat} {a b : Str} (h : Abc n a) (g : Abc m b) (l : n + m ≤ 1000) : a.length + b.length ≤ sizeLine := by
  rw [h.1, g.1]
  exact Nat.le_of_lt (small1000 l)
end Lot
/-! ### rules in a comprehension's block: what is written (K) said by the def's own name -/
namespace Lot
open PySem PySem.Spec PyProof.Rows L2
section
variable {X : Cx} {K : PySem.W.Frag}
theorem pe_bmK {T : String} {e : Expr} {to : TE} {t : TA} {r : V → List V → Hp → VK → Prop} (hK : X.K = K) (h : PE X e (tBM X.K T r to t)) : PE X e (tBM K T r to t) := hK ▸ h
def rJoinK (K : PySem.W.Frag) : V → List V → Hp → VK → Prop := fun x xs H Q => ∃ a p, ∃ ys : List Str, x = .str a ∧ xs = [.ref p] ∧ (SqL K H p (ys.map V.str) ∨ SqT K H p (ys.map V.str)) ∧
  (ys.map (·.length)).sum + ys.length * a.length ≤ 16777216 ∧ Q (.str (Txt.join a ys)) H
theorem pe_joinK {e : Expr} {to te : TE} (hK : X.K = K) (h : PE X e (tM1 (rJoinK X.K) to te)) : PE X e (tM1 (rJoinK K) to te) := hK ▸ h
theorem sl_listK (hK : X.K = K) : SlR X (rSlL K) := hK ▸ sl_list
theorem sl_tupK (hK : X.K = K) : SlR X (rSlT K) := hK ▸ sl_tup
def rLenK (K : PySem.W.Frag) : List V → Hp → VK → Prop := fun xs H Q => ∃ p ys, xs = [.ref p] ∧ (SqL K H p ys ∨ SqT K H p ys) ∧ Q (.int ys.length) H
theorem call_len_seqK (hK : X.K = K) : CallR X (.builtin "len") (rLenK K) := hK ▸ call_len_seq
theorem op_eqDK (hK : X.K = K) (hu : X.A.units + 64 < cLine) : OpR X (compareOp .Eq) (rEqD K) := hK ▸ op_eqD hu
theorem op_neDK (hK : X.K = K) (hu : X.A.units + 64 < cLine) : OpR X (compareOp .NotEq) (rNeD K) := hK ▸ op_neD hu
theorem ix_listK (hK : X.K = K) : IxR X (rIxL K) := hK ▸ ix_list
theorem ix_tupK (hK : X.K = K) : IxR X (rIxT K) := hK ▸ ix_tup
end
end Lot
namespace Lot
open PySem PySem.Spec PyProof.Rows L2
theorem seqIx {n r : Nat} (h : r < n) : seqIndex? (r : Int) n = some r := by
  refine (ixN_seq ?_).1
  unfold ixN
  rw [if_pos (by omega), if_pos (by omega)]
  rfl
end Lot

/-! Standings as texts: the mathematics. -/
namespace Lot
open PySem PySem.Spec PyProof.Rows L2
abbrev slash : Str := Str.ofString "/"
def Bd.edge (bd : Bd) (i : Nat) : Bool := match bd with
  | .floor _ w => decide (0 < i) && decide (i % w = 0)
  | _ => false
def dash (f : Nat) : Str := if f = 0 then "" else "-"
def word (th : Str × Nat) : Str := dash th.2 ++ th.1
def cellWords (bd : Bd) (i : Nat) (th : Str × Nat) : List Str := (if bd.edge i then [slash] else []) ++ [word th]
def wordsFrom (bd : Bd) : Nat → List (Str × Nat) → List Str
  | _, [] => []
  | i, th :: r => cellWords bd i th ++ wordsFrom bd (i + 1) r
theorem wordsFrom_app (bd : Bd) : ∀ (xs ys : List (Str × Nat)) (i : Nat), wordsFrom bd i (xs ++ ys) = wordsFrom bd i xs ++ wordsFrom bd (i + xs.length) ys
  | [], ys, i => by simp [wordsFrom]
  | x :: xs, ys, i => by
    show cellWords bd i x ++ wordsFrom bd (i + 1) (xs ++ ys) = (cellWords bd i x ++ wordsFrom bd (i + 1) xs) ++ _
    rw [wordsFrom_app bd xs ys (i + 1), List.append_assoc, List.length_cons]
    rw [show i + 1 + xs.length = i + (xs.length + 1) by omega]
theorem wordsFrom_take (bd : Bd) {ths : List (Str × Nat)} {i : Nat} {th : Str × Nat} (h : ths[i]? = some th) : wordsFrom bd 0 (ths.take (i + 1)) = wordsFrom bd 0 (ths.take i) ++ cellWords bd i th := by
  have hi : i < ths.length := (List.getElem?_eq_some_iff.mp h).1
  rw [List.take_add_one, h, wordsFrom_app]
  have e : (ths.take i).length = i := by rw [List.length_take]; omega
  rw [e, Nat.zero_add]
  show _ ++ (cellWords bd i th ++ []) = _
  rw [List.append_nil]
/-- the text of a standing -/
def textOf (bd : Bd) (ths : List (Str × Nat)) : Str := Str.join " " (wordsFrom bd 0 ths)
/-- names that stand: faces 0, 1 -/
def ThOk (th : Str × Nat) : Prop := NameOk th.1 ∧ th.2 < 2
theorem str_app_len (a b : Str) : (a ++ b).length = a.length + b.length := by
  show (a.cps ++ b.cps).size = _
  rw [Array.size_append]; rfl
theorem word_len {th : Str × Nat} (h : ThOk th) : (word th).length ≤ 5 := by
  have e : (word th).length = (dash th.2).length + th.1.length := str_app_len _ _
  have h1 : (dash th.2).length ≤ 1 := by
    unfold dash
    split <;> decide
  have := h.1.2.1
  omega
theorem words_ok (bd : Bd) : ∀ (ths : List (Str × Nat)) (i : Nat), (∀ th ∈ ths, ThOk th) → (∀ z ∈ wordsFrom bd i ths, z.length ≤ 5) ∧ (wordsFrom bd i ths).length ≤ 2 * ths.length
  | [], i, _ => ⟨(fun z hz => by cases hz), Nat.le_refl _⟩
  | th :: r, i, h => by
    have ih := words_ok bd r (i + 1) fun t ht => h t (List.mem_cons_of_mem _ ht)
    have hw := word_len (h th List.mem_cons_self)
    refine ⟨fun z hz => ?_, ?_⟩
    · rcases List.mem_append.mp hz with hz | hz
      · rcases List.mem_append.mp hz with hz | hz
        · split at hz
          · rw [List.mem_singleton.mp hz]; decide
          · cases hz
        · rw [List.mem_singleton.mp hz]; exact hw
      · exact ih.1 z hz
    · show (((if bd.edge i then [slash] else []) ++ [word th]) ++ wordsFrom bd (i + 1) r).length ≤ _
      rw [List.length_append, List.length_append]
      have h2 : (th :: r).length = r.length + 1 := rfl
      have : (if bd.edge i then ([slash] : List Str) else []).length ≤ 1 := by split <;> decide
      have h1 : [word th].length = 1 := rfl
      omega
theorem sum_len {ys : List Str} {m : Nat} (h : ∀ z ∈ ys, z.length ≤ m) : (ys.map (·.length)).sum ≤ ys.length * m := by
  induction ys with
  | nil => simp
  | cons y r ih =>
    have := ih fun z hz => h z (List.mem_cons_of_mem _ hz)
    have := h y List.mem_cons_self
    rw [List.map_cons, List.sum_cons, List.length_cons, Nat.succ_mul]
    omega
theorem join_fits {ys : List Str} {m n k : Nat} (h : ∀ z ∈ ys, z.length ≤ m) (hn : ys.length ≤ n) (c : n * m + n * k ≤ 16777216) : (ys.map (·.length)).sum + ys.length * k ≤ 16777216 := by
  have h1 := sum_len h
  have h2 : ys.length * m ≤ n * m := Nat.mul_le_mul_right m hn
  have h3 : ys.length * k ≤ n * k := Nat.mul_le_mul_right k hn
  omega
/-! ### rows -/
theorem app_assoc (a b c : Str) : a ++ b ++ c = a ++ (b ++ c) := by
  show (⟨a.cps ++ b.cps ++ c.cps⟩ : Str) = ⟨a.cps ++ (b.cps ++ c.cps)⟩
  rw [Array.append_assoc]
theorem join_cons2 (s x y : Str) (r : List Str) : Str.join s (x :: y :: r) = x ++ s ++ Str.join s (y :: r) := rfl
theorem join_app (s : Str) : ∀ {xs ys : List Str}, xs ≠ [] → ys ≠ [] → Str.join s (xs ++ ys) = Str.join s xs ++ (s ++ Str.join s ys)
  | [], _, h, _ => absurd rfl h
  | [x], [], _, h => absurd rfl h
  | [x], y :: r, _, _ => by
    show Str.join s (x :: y :: r) = x ++ (s ++ Str.join s (y :: r))
    rw [join_cons2, app_assoc]
  | x :: z :: xs, ys, _, h => by
    show Str.join s (x :: z :: (xs ++ ys)) = _
    rw [join_cons2, join_cons2]
    have := join_app s (xs := z :: xs) (ys := ys) (by simp) h
    rw [show z :: (xs ++ ys) = (z :: xs) ++ ys from rfl, this]
    simp only [app_assoc]
/-- rows of words, a / between two -/
def glued : List (List Str) → List Str
  | [] => []
  | [r] => r
  | r :: q :: rs => r ++ (slash :: glued (q :: rs))
theorem glued_ne : ∀ {rows : List (List Str)}, rows ≠ [] → (∀ r ∈ rows, r ≠ []) → glued rows ≠ []
  | [], h, _ => absurd rfl h
  | [r], _, h => h r List.mem_cons_self
  | r :: q :: rs, _, h => by
    show r ++ _ ≠ []
    simp
theorem join_glued : ∀ {rows : List (List Str)}, rows ≠ [] → (∀ r ∈ rows, r ≠ []) → Str.join " " (glued rows) = Str.join " / " (rows.map (Str.join " "))
  | [], h, _ => absurd rfl h
  | [r], _, h => rfl
  | r :: q :: rs, _, h => by
    have hr := h r List.mem_cons_self
    have ih := join_glued (rows := q :: rs) (by simp) fun x hx => h x (List.mem_cons_of_mem _ hx)
    have hg := glued_ne (rows := q :: rs) (by simp) fun x hx => h x (List.mem_cons_of_mem _ hx)
    show Str.join " " (r ++ (slash :: glued (q :: rs))) = Str.join " / " (Str.join " " r :: Str.join " " q :: rs.map (Str.join " "))
    rw [join_app _ hr (by simp), join_cons2]
    have e2 : Str.join " / " (Str.join " " q :: rs.map (Str.join " ")) = Str.join " " (glued (q :: rs)) := ih.symm
    rw [e2]
    cases hgl : glued (q :: rs) with
    | nil => exact absurd hgl hg
    | cons y ys =>
      rw [join_cons2]
      have e3 : (" / " : Str) = (" " : Str) ++ ("/" ++ " ") := by decide +kernel
      rw [e3]
      simp only [app_assoc]
/-- the rows of a board's words: row r is the words from r * w on, w of them -/
def rowsOf (h w : Nat) (ws : List Str) : List (List Str) := (List.range h).map fun r => (ws.drop (r * w)).take w
theorem mod_in {k w j : Nat} (hj : j < w) (h0 : 0 < j) : (k * w + j) % w = j := by
  rw [Nat.mul_comm, Nat.mul_add_mod]
  exact Nat.mod_eq_of_lt hj
/-- within a row no edge -/
theorem words_row {h w k : Nat} (hw : 0 < w) : ∀ (ths : List (Str × Nat)) (j : Nat), 0 < j → j + ths.length ≤ w → wordsFrom (.floor h w) (k * w + j) ths = ths.map word
  | [], _, _, _ => rfl
  | th :: r, j, h0, hl => by
    rw [List.length_cons] at hl
    have e : (Bd.floor h w).edge (k * w + j) = false := by
      show (decide _ && decide ((k * w + j) % w = 0)) = false
      rw [mod_in (by omega) h0, Bool.and_eq_false_iff]
      exact .inr (decide_eq_false (by omega))
    show ((if (Bd.floor h w).edge (k * w + j) then _ else _) ++ [word th]) ++ wordsFrom (.floor h w) (k * w + j + 1) r = _
    rw [e, show k * w + j + 1 = k * w + (j + 1) by omega, words_row (k := k) hw r (j + 1) (by omega) (by omega)]
    rfl
theorem words_line {h w k : Nat} (hw : 0 < w) (th : Str × Nat) (r : List (Str × Nat)) (hl : r.length + 1 ≤ w) :
    wordsFrom (.floor h w) (k * w) (th :: r) = (if 0 < k then [slash] else []) ++ ((th :: r).map word) := by
  show ((if (Bd.floor h w).edge (k * w) then _ else _) ++ [word th]) ++ wordsFrom (.floor h w) (k * w + 1) r = _
  rw [words_row (k := k) hw r 1 (by omega) (by omega)]
  have e : (Bd.floor h w).edge (k * w) = decide (0 < k) := by
    show (decide (0 < k * w) && decide (k * w % w = 0)) = _
    rw [Nat.mul_mod_left]
    by_cases c : 0 < k
    · rw [decide_eq_true c, decide_eq_true (Nat.mul_pos c hw)]; rfl
    · have : k = 0 := by omega
      subst this
      simp
  rw [e]
  by_cases c : 0 < k
  · rw [decide_eq_true c, if_pos rfl, if_pos c]; rfl
  · rw [decide_eq_false c, if_neg (by decide), if_neg c]; rfl
theorem words_glued {h w : Nat} (hw : 0 < w) : ∀ (n k : Nat) (ths : List (Str × Nat)), ths.length = (n + 1) * w →
    wordsFrom (.floor h w) (k * w) ths = (if 0 < k then [slash] else []) ++ glued (rowsOf (n + 1) w (ths.map word))
  | n, k, ths, hl => by
    have hlw : w ≤ ths.length := by rw [hl, Nat.succ_mul]; omega
    have es : ths = ths.take w ++ ths.drop w := (List.take_append_drop w ths).symm
    have el : (ths.take w).length = w := by rw [List.length_take]; omega
    have first : wordsFrom (.floor h w) (k * w) (ths.take w) = (if 0 < k then [slash] else []) ++ (ths.take w).map word := by
      cases e : ths.take w with
      | nil => rw [e] at el; simp at el; omega
      | cons th r =>
        rw [e] at el
        exact words_line hw th r (by rw [List.length_cons] at el; omega)
    cases n with
    | zero =>
      have e0 : ths.take w = ths := List.take_of_length_le (by rw [hl]; omega)
      rw [e0] at first
      rw [first]
      congr 1
      show ths.map word = ((ths.map word).drop (0 * w)).take w
      rw [Nat.zero_mul, List.drop_zero, ← List.map_take, e0]
    | succ n =>
      have ih := words_glued (h := h) hw n (k + 1) (ths.drop w) (by rw [List.length_drop, hl, Nat.succ_mul (n + 1)]; omega)
      have er : rowsOf (n + 1 + 1) w (ths.map word) = (ths.take w).map word :: rowsOf (n + 1) w ((ths.drop w).map word) := by
        unfold rowsOf
        rw [List.range_succ_eq_map, List.map_cons, List.map_map]
        congr 1
        · rw [Nat.zero_mul, List.drop_zero, List.map_take]
        · refine List.map_congr_left fun r _ => ?_
          show ((ths.map word).drop ((r + 1) * w)).take w = (((ths.drop w).map word).drop (r * w)).take w
          rw [List.map_drop, List.drop_drop, Nat.succ_mul, Nat.add_comm (r * w) w]
      conv => lhs; rw [es, wordsFrom_app, el, show k * w + w = (k + 1) * w from (Nat.succ_mul k w).symm]
      rw [first, ih, if_pos (Nat.succ_pos k), er, List.append_assoc]
      congr 1
      cases e : rowsOf (n + 1) w ((ths.drop w).map word) with
      | nil =>
        unfold rowsOf at e
        rw [List.map_eq_nil_iff, List.range_eq_nil] at e
        omega
      | cons q rs => rfl
theorem words_plain (bd : Bd) (hb : ∀ i, bd.edge i = false) : ∀ (ths : List (Str × Nat)) (i : Nat), wordsFrom bd i ths = ths.map word
  | [], _ => rfl
  | th :: r, i => by
    show ((if bd.edge i then _ else _) ++ [word th]) ++ wordsFrom bd (i + 1) r = _
    rw [hb, words_plain bd hb r (i + 1)]
    rfl
theorem shown_is {bd : Bd} {ths : List (Str × Nat)} (ok : bd.Ok 36) (hl : ths.length = bd.cells) :
    Str.join " / " ((rowsOf bd.high bd.wide (ths.map word)).map (Str.join " ")) = textOf bd ths := by
  unfold textOf
  have plain : ∀ n, bd.high = 1 → bd.wide = n → (∀ i, bd.edge i = false) → bd.cells = n → Str.join " / " ((rowsOf bd.high bd.wide (ths.map word)).map (Str.join " ")) = Str.join " " (wordsFrom bd 0 ths) := fun n e1 e2 e3 e4 => by
    rw [e1, e2, words_plain bd e3]
    show Str.join " / " [Str.join " " (((ths.map word).drop (0 * n)).take n)] = _
    rw [Nat.zero_mul, List.drop_zero, List.take_of_length_le (by rw [List.length_map, hl, e4]; exact Nat.le_refl _)]
    rfl
  cases bd with
  | row n => exact plain n rfl rfl (fun _ => rfl) (Nat.one_mul n)
  | ring n => exact plain n rfl rfl (fun _ => rfl) (Nat.one_mul n)
  | floor h w =>
    obtain ⟨o1, o2, o3⟩ := ok
    obtain ⟨n, rfl⟩ : ∃ n, h = n + 1 := ⟨h - 1, by omega⟩
    have := words_glued (h := n + 1) o2 n 0 ths hl
    rw [Nat.zero_mul, if_neg (by decide), List.nil_append] at this
    rw [this]
    show Str.join " / " ((rowsOf (n + 1) w (ths.map word)).map (Str.join " ")) = _
    refine (join_glued ?_ ?_).symm
    · unfold rowsOf
      simp
    · intro r hr
      unfold rowsOf at hr
      obtain ⟨k, hk, rfl⟩ := List.mem_map.mp hr
      have hk' : k < n + 1 := List.mem_range.mp hk
      intro e
      have : (List.take w (List.drop (k * w) (ths.map word))).length = 0 := by rw [e]; rfl
      rw [List.length_take, List.length_drop, List.length_map, hl] at this
      have h2 : (k + 1) * w ≤ (n + 1) * w := Nat.mul_le_mul_right w hk'
      have h3 : (Bd.floor (n + 1) w).cells = (n + 1) * w := rfl
      rw [Nat.succ_mul] at h2
      omega
end Lot
namespace Lot
open PySem PySem.Spec PyProof.Rows L2
theorem join_len (s : Str) : ∀ ys : List Str, (Str.join s ys).length ≤ (ys.map (·.length)).sum + ys.length * s.length
  | [] => Nat.zero_le _
  | [x] => by
    show x.length ≤ (x.length + 0) + _
    omega
  | x :: y :: r => by
    have ih := join_len s (y :: r)
    rw [join_cons2, str_app_len, str_app_len, List.map_cons, List.sum_cons, List.length_cons, Nat.succ_mul]
    omega
theorem join_le {s : Str} {ys : List Str} {m n k : Nat} (h : ∀ z ∈ ys, z.length ≤ m) (hn : ys.length ≤ n) (hs : s.length ≤ k) : (Str.join s ys).length ≤ n * m + n * k := by
  have h0 := join_len s ys
  have h1 := sum_len h
  have h2 : ys.length * m ≤ n * m := Nat.mul_le_mul_right m hn
  have h3 : ys.length * s.length ≤ n * k := Nat.mul_le_mul hn hs
  omega
end Lot

/-! Texts read: the mathematics. -/
namespace Lot
open PySem PySem.Spec PyProof.Rows L2
def isName (z : Str) : Bool := (decide (1 ≤ z.length) && decide (z.length ≤ 4)) && z.cps.toList.all fun c => decide (c ∈ abc.cps.toList)
def minus : Str := Str.ofString "-"
/-- a word taken for a thing -/
def thingOf (z : Str) : Str × Nat := if Txt.startswith z minus = true then (cutS z (some 1) none, 1) else (z, 0)
def isDue (z : Str) (at' wide : Nat) : Bool := if at' % (wide + 1) = wide then decide (z = slash) else isName (thingOf z).1
theorem mem_abc {c : Nat} : c ∈ abc.cps.toList ↔ 97 ≤ c ∧ c ≤ 122 := by
  rw [abc_list, List.mem_map]
  constructor
  · rintro ⟨a, ha, rfl⟩
    have := List.mem_range.mp ha
    omega
  · rintro ⟨h1, h2⟩
    exact ⟨c - 97, List.mem_range.mpr (by omega), by omega⟩
theorem isName_iff {z : Str} : isName z = true ↔ NameOk z := by
  unfold isName NameOk
  rw [Bool.and_eq_true, Bool.and_eq_true, List.all_eq_true]
  constructor
  · rintro ⟨⟨h1, h2⟩, h3⟩
    exact ⟨of_decide_eq_true h1, of_decide_eq_true h2, fun c hc => mem_abc.mp (of_decide_eq_true (h3 c hc))⟩
  · rintro ⟨h1, h2, h3⟩
    exact ⟨⟨decide_eq_true h1, decide_eq_true h2⟩, fun c hc => decide_eq_true (mem_abc.mpr (h3 c hc))⟩
theorem str_ext {a b : Str} (h : a.cps.toList = b.cps.toList) : a = b := by
  obtain ⟨a⟩ := a
  obtain ⟨b⟩ := b
  exact congrArg Str.mk (Array.toList_inj.mp h)
theorem minus_is : minus = ⟨#[45]⟩ := by decide +kernel
theorem starts_iff {z : Str} : Txt.startswith z minus = true ↔ z.cps.toList[0]? = some 45 := by
  unfold Txt.startswith Builtin.Str.subAt
  rw [minus_is]
  obtain ⟨⟨l⟩⟩ := z
  cases l with
  | nil => simp [Str.length]
  | cons c r => simp [Str.length]
theorem cut_one (z : Str) : cutS z (some 1) none = ⟨(z.cps.toList.drop 1).toArray⟩ := by
  unfold cutS
  have e1 : HT.sIx z.length 0 (some 1) = min 1 z.length := HT.sIx_nat z.length 0 1
  rw [e1, HT.sIx_none]
  have hl : z.length = z.cps.toList.length := by simp [Str.length]
  rw [hl]
  congr 2
  cases z.cps.toList with
  | nil => rfl
  | cons x r =>
    rw [show min 1 (x :: r).length = 1 by rw [List.length_cons]; omega]
    show List.take ((x :: r).length - 1) r = r
    rw [List.length_cons, Nat.add_sub_cancel]
    exact List.take_length
theorem nil_app (z : Str) : (Str.ofString "" ++ z) = z := by
  have e : Str.ofString "" = ⟨#[]⟩ := by decide +kernel
  rw [e]
  show (⟨#[] ++ z.cps⟩ : Str) = z
  rw [Array.empty_append]
theorem word_up {th : Str × Nat} (h : th.2 = 0) : word th = th.1 := by
  unfold word dash
  rw [if_pos h, nil_app]
theorem word_down {th : Str × Nat} (h : th.2 ≠ 0) : (word th).cps.toList = 45 :: th.1.cps.toList := by
  unfold word dash
  rw [if_neg h]
  show ((Str.ofString "-").cps ++ th.1.cps).toList = _
  rw [Array.toList_append]
  have e : (Str.ofString "-").cps.toList = [45] := by decide +kernel
  rw [e]
  rfl
theorem name_first {z : Str} (h : NameOk z) : ∃ c r, z.cps.toList = c :: r ∧ 97 ≤ c ∧ c ≤ 122 := by
  cases e : z.cps.toList with
  | nil =>
    have h1 := h.1
    have : z.length = 0 := by
      show z.cps.size = 0
      rw [← Array.length_toList, e]; rfl
    omega
  | cons c r => exact ⟨c, r, rfl, h.2.2 c (by rw [e]; exact List.mem_cons_self)⟩
theorem thing_word {th : Str × Nat} (h : ThOk th) : thingOf (word th) = th := by
  obtain ⟨c, r, ec, c1, c2⟩ := name_first h.1
  unfold thingOf
  by_cases f : th.2 = 0
  · rw [word_up f, if_neg (fun z => by
      rw [starts_iff, ec] at z
      have : c = 45 := Option.some.inj z
      omega)]
    rw [← f]
  · have e := word_down f
    rw [if_pos (starts_iff.mpr (by rw [e]; rfl)), cut_one, e]
    have : th.2 = 1 := by have := h.2; omega
    refine Prod.ext ?_ this.symm
    show (⟨th.1.cps.toList.toArray⟩ : Str) = th.1
    rw [Array.toArray_toList]
theorem word_ne_slash {th : Str × Nat} (h : ThOk th) : word th ≠ slash := fun e => by
  have e2 := thing_word h
  rw [e] at e2
  have e3 : thingOf slash = (slash, 0) := by decide +kernel
  rw [e3] at e2
  have h1 := h.1
  rw [← e2] at h1
  have : 97 ≤ 47 := (h1.2.2 47 (by decide +kernel)).1
  omega
theorem word_no_blank {th : Str × Nat} (h : ThOk th) : 32 ∉ (word th).cps.toList := fun hm => by
  by_cases f : th.2 = 0
  · rw [word_up f] at hm
    have := (h.1.2.2 32 hm).1
    omega
  · rw [word_down f] at hm
    rcases List.mem_cons.mp hm with e | hm
    · exact absurd e (by decide)
    · have := (h.1.2.2 32 hm).1
      omega
/-! ### rows glued -/
theorem glued_len {w : Nat} : ∀ {rows : List (List Str)}, rows ≠ [] → (∀ r ∈ rows, r.length = w) → (glued rows).length + 1 = rows.length * (w + 1)
  | [], h, _ => absurd rfl h
  | [r], _, h => by
    show r.length + 1 = 1 * (w + 1)
    rw [h r List.mem_cons_self, Nat.one_mul]
  | r :: q :: rs, _, h => by
    have ih := glued_len (rows := q :: rs) (by simp) fun x hx => h x (List.mem_cons_of_mem _ hx)
    show (r ++ (slash :: glued (q :: rs))).length + 1 = _
    rw [List.length_append, List.length_cons, h r List.mem_cons_self, List.length_cons, Nat.succ_mul]
    omega
theorem glued_due {w : Nat} : ∀ {rows : List (List Str)} {j : Nat} {z : Str}, (∀ r ∈ rows, r.length = w) → (glued rows)[j]? = some z → if j % (w + 1) = w then z = slash else ∃ r ∈ rows, z ∈ r
  | [], j, z, _, e => by simp [glued] at e
  | [r], j, z, h, e => by
    have e' : r[j]? = some z := e
    have hj := (List.getElem?_eq_some_iff.mp e').1
    rw [h r List.mem_cons_self] at hj
    rw [if_neg (by rw [Nat.mod_eq_of_lt (by omega)]; omega)]
    exact ⟨r, List.mem_cons_self, List.mem_of_getElem? e'⟩
  | r :: q :: rs, j, z, h, e => by
    have hr := h r List.mem_cons_self
    have e' : (r ++ (slash :: glued (q :: rs)))[j]? = some z := e
    by_cases c : j < w
    · rw [List.getElem?_append_left (by omega)] at e'
      rw [if_neg (by rw [Nat.mod_eq_of_lt (by omega)]; omega)]
      exact ⟨r, List.mem_cons_self, List.mem_of_getElem? e'⟩
    · rw [List.getElem?_append_right (by omega), hr] at e'
      by_cases c2 : j = w
      · subst c2
        rw [Nat.sub_self] at e'
        rw [if_pos (Nat.mod_eq_of_lt (by omega))]
        exact (Option.some.inj e').symm
      · obtain ⟨k, rfl⟩ : ∃ k, j = (w + 1) + k := ⟨j - (w + 1), by omega⟩
        rw [show w + 1 + k - w = k + 1 by omega, List.getElem?_cons_succ] at e'
        have ih := glued_due (rows := q :: rs) (fun x hx => h x (List.mem_cons_of_mem _ hx)) e'
        rw [Nat.add_mod_left]
        split
        · next c3 => rw [if_pos c3] at ih; exact ih
        · next c3 =>
          rw [if_neg c3] at ih
          obtain ⟨x, hx, hz⟩ := ih
          exact ⟨x, List.mem_cons_of_mem _ hx, hz⟩
theorem glued_filter : ∀ {rows : List (List Str)}, (∀ r ∈ rows, ∀ z ∈ r, z ≠ slash) → (glued rows).filter (fun z => !decide (z = slash)) = rows.flatten
  | [], _ => rfl
  | [r], h => by
    show r.filter _ = [r].flatten
    rw [List.flatten_singleton, List.filter_eq_self.mpr]
    intro z hz
    rw [decide_eq_false (h r List.mem_cons_self z hz)]; rfl
  | r :: q :: rs, h => by
    have ih := glued_filter (rows := q :: rs) fun x hx => h x (List.mem_cons_of_mem _ hx)
    have hr : r.filter (fun z => !decide (z = slash)) = r := List.filter_eq_self.mpr fun z hz => by
      rw [decide_eq_false (h r List.mem_cons_self z hz)]; rfl
    show (r ++ (slash :: glued (q :: rs))).filter _ = (r :: q :: rs).flatten
    rw [List.filter_append, hr, List.filter_cons_of_neg (by simp), ih]
    rfl
theorem rows_flat {w : Nat} : ∀ (h : Nat) (ws : List Str), ws.length = h * w → (rowsOf h w ws).flatten = ws
  | 0, ws, e => by
    rw [Nat.zero_mul] at e
    rw [List.eq_nil_of_length_eq_zero e]
    rfl
  | h + 1, ws, e => by
    have ih := rows_flat (w := w) h (ws.drop w) (by rw [List.length_drop, e, Nat.succ_mul]; omega)
    have er : rowsOf (h + 1) w ws = ws.take w :: rowsOf h w (ws.drop w) := by
      unfold rowsOf
      rw [List.range_succ_eq_map, List.map_cons, List.map_map]
      congr 1
      · rw [Nat.zero_mul, List.drop_zero]
      · refine List.map_congr_left fun r _ => ?_
        show (ws.drop ((r + 1) * w)).take w = ((ws.drop w).drop (r * w)).take w
        rw [List.drop_drop, Nat.succ_mul, Nat.add_comm (r * w) w]
    rw [er, List.flatten_cons, ih, List.take_append_drop]
theorem rows_each {h w : Nat} {ws : List Str} (e : ws.length = h * w) : ∀ r ∈ rowsOf h w ws, r.length = w ∧ ∀ z ∈ r, z ∈ ws := by
  intro r hr
  unfold rowsOf at hr
  obtain ⟨k, hk, rfl⟩ := List.mem_map.mp hr
  have hk' := List.mem_range.mp hk
  have h2 : (k + 1) * w ≤ h * w := Nat.mul_le_mul_right w hk'
  rw [Nat.succ_mul] at h2
  refine ⟨?_, fun z hz => List.mem_of_mem_drop (List.mem_of_mem_take hz)⟩
  rw [List.length_take, List.length_drop, e]
  omega
theorem words_is {bd : Bd} {ths : List (Str × Nat)} (ok : bd.Ok 36) (hl : ths.length = bd.cells) : wordsFrom bd 0 ths = glued (rowsOf bd.high bd.wide (ths.map word)) := by
  have plain : ∀ n, bd.high = 1 → bd.wide = n → (∀ i, bd.edge i = false) → bd.cells = n → wordsFrom bd 0 ths = glued (rowsOf bd.high bd.wide (ths.map word)) := fun n e1 e2 e3 e4 => by
    rw [e1, e2, words_plain bd e3]
    show _ = ((ths.map word).drop (0 * n)).take n
    rw [Nat.zero_mul, List.drop_zero, List.take_of_length_le (by rw [List.length_map, hl, e4]; exact Nat.le_refl _)]
  cases bd with
  | row n => exact plain n rfl rfl (fun _ => rfl) (Nat.one_mul n)
  | ring n => exact plain n rfl rfl (fun _ => rfl) (Nat.one_mul n)
  | floor h w =>
    obtain ⟨o1, o2, o3⟩ := ok
    obtain ⟨n, rfl⟩ : ∃ n, h = n + 1 := ⟨h - 1, by omega⟩
    have := words_glued (h := n + 1) o2 n 0 ths hl
    rw [Nat.zero_mul, if_neg (by decide), List.nil_append] at this
    exact this
theorem Bd.pos {bd : Bd} (ok : bd.Ok 36) : 1 ≤ bd.high ∧ 1 ≤ bd.wide := by
  cases bd with
  | row n => exact ⟨Nat.le_refl _, by have := ok.1; show 1 ≤ n; omega⟩
  | ring n => exact ⟨Nat.le_refl _, by have := ok.1; show 1 ≤ n; omega⟩
  | floor h w => exact ⟨ok.1, ok.2.1⟩
/-- the words of a standing are due, are as many as are due, and tell its things -/
theorem words_due {bd : Bd} {ths : List (Str × Nat)} (ok : bd.Ok 36) (hl : ths.length = bd.cells) (hok : ∀ th ∈ ths, ThOk th) :
    (∀ j z, (wordsFrom bd 0 ths)[j]? = some z → isDue z j bd.wide = true) ∧ (wordsFrom bd 0 ths).length + 1 = bd.high * (bd.wide + 1) ∧
      ((wordsFrom bd 0 ths).filter fun z => !decide (z = slash)).map thingOf = ths := by
  have hp := Bd.pos ok
  have hwl : (ths.map word).length = bd.high * bd.wide := by rw [List.length_map, hl]; rfl
  have hrows := rows_each hwl
  have hword : ∀ z ∈ ths.map word, ∃ th ∈ ths, z = word th := fun z hz => by
    obtain ⟨th, h1, h2⟩ := List.mem_map.mp hz
    exact ⟨th, h1, h2.symm⟩
  rw [words_is ok hl]
  refine ⟨fun j z e => ?_, ?_, ?_⟩
  · have := glued_due (fun r hr => (hrows r hr).1) e
    unfold isDue
    split
    · next c => rw [if_pos c] at this; exact decide_eq_true this
    · next c =>
      rw [if_neg c] at this
      obtain ⟨r, hr, hz⟩ := this
      obtain ⟨th, h1, rfl⟩ := hword z ((hrows r hr).2 z hz)
      rw [thing_word (hok th h1)]
      exact isName_iff.mpr (hok th h1).1
  · have hne : rowsOf bd.high bd.wide (ths.map word) ≠ [] := fun e => by
      unfold rowsOf at e
      rw [List.map_eq_nil_iff, List.range_eq_nil] at e
      omega
    have := glued_len (w := bd.wide) hne fun r hr => (hrows r hr).1
    rw [this]
    unfold rowsOf
    rw [List.length_map, List.length_range]
  · rw [glued_filter, rows_flat bd.high _ hwl, List.map_map]
    · rw [List.map_congr_left (g := id), List.map_id]
      intro th hth
      exact thing_word (hok th hth)
    · intro r hr z hz
      obtain ⟨th, h1, rfl⟩ := hword z ((hrows r hr).2 z hz)
      exact word_ne_slash (hok th h1)
/-- the text of a standing, split -/
theorem text_split {bd : Bd} {ths : List (Str × Nat)} (hne : ths ≠ []) (hok : ∀ th ∈ ths, ThOk th) : Txt.split (textOf bd ths) (Str.ofString " ") = wordsFrom bd 0 ths := by
  unfold textOf
  have e : TL.tl (Str.ofString " ") = 32 :: [] := by decide +kernel
  rw [← TL.join_eq]
  refine TL.split_join e (by decide +kernel) ?_ ?_
  · cases ths with
    | nil => exact absurd rfl hne
    | cons th r =>
      show cellWords bd 0 th ++ _ ≠ []
      unfold cellWords
      simp
  · have : ∀ (l : List (Str × Nat)) (i : Nat), (∀ th ∈ l, ThOk th) → ∀ p ∈ wordsFrom bd i l, 32 ∉ TL.tl p := by
      intro l
      induction l with
      | nil => intro i _ p hp; cases hp
      | cons th r ih =>
        intro i h p hp
        rcases List.mem_append.mp hp with hp | hp
        · rcases List.mem_append.mp hp with hp | hp
          · split at hp
            · rw [List.mem_singleton.mp hp]; decide +kernel
            · cases hp
          · rw [List.mem_singleton.mp hp]
            exact word_no_blank (h th List.mem_cons_self)
        · exact ih (i + 1) (fun t ht => h t (List.mem_cons_of_mem _ ht)) p hp
    exact this ths 0 hok
end Lot

/-! repr of data: exact where nothing is being shown already (no guards stand around); a def called there; a row's law called from outside. -/
namespace Lot
open PySem PySem.Spec PyProof.Rows L2
/-- what a def does where nothing is being shown -/
def GRun (P : Program) (w : World) (K : PySem.W.Frag) (mg : Str → Option Value) (base : Heap) (CX : CXT) (k : Nat) (f : Addr) (fd : FuncData) (ps : List Str) (sp : Sp) : Prop :=
  ∀ (A : Around) (outer : List Env) (s : Shared) (H : Hp) (args : Args) (us : List Value) (vs : List V) (Q : VK) (E : XK),
    A.guards = some [] → Room k A → Env0 P w K mg base A outer s H → BindsTo s fd args (ps.zip us) → Vals vs us → sp vs H Q E →
      codeAny (model P w) A (.call (.ref f) args) (CR CX outer P w H s Q E) s
/-- repr of a thing that is data -/
def rReprD (K : PySem.W.Frag) : List V → Hp → VK → Prop := fun xs H Q => ∃ (a : Addr) (d : PyData), xs = [.ref a] ∧ Dp K H (.ref a) d ∧ d.showable = true ∧ d.hasDict = false ∧ d.depth ≤ 50 ∧ d.shown.length ≤ sizeLine ∧ Q (.str d.shown) H
theorem call_reprD {X : Cx} {k : Nat} (hG : X.A.guards = some []) (hr : Room k X.A) : CallR X (.builtin "repr") (rReprD X.K) := by
  intro pins s σ H xs us Q I r h
  obtain ⟨a, d, rfl, hd, h1, h2, h3, h4, q⟩ := h
  obtain ⟨u, rfl, ru⟩ := vals1 r
  obtain ⟨as, rd⟩ := Dp.reads I d _ u hd ru
  cases ru
  have un := hr.units
  exact repr_of_reads' rd h1 (fun z => by rw [h2] at z; cases z) hG (by omega) (fun _ _ e => e) (fun h' u tk kp => ⟨.str d.shown, H, I.kept kp, ⟨u, rfl⟩, q⟩) h4
/-- repr of an int, or of a thing that is data -/
def rReprV (K : PySem.W.Frag) : List V → Hp → VK → Prop := fun xs H Q => ∃ (x : V) (d : PyData), xs = [x] ∧ ((∃ i, x = .int i) ∨ ∃ a, x = .ref a) ∧ Dp K H x d ∧ d.showable = true ∧ d.hasDict = false ∧ d.depth ≤ 50 ∧ d.shown.length ≤ sizeLine ∧ Q (.str d.shown) H
theorem call_reprV {X : Cx} {k : Nat} (hG : X.A.guards = some []) (hr : Room k X.A) : CallR X (.builtin "repr") (rReprV X.K) := by
  intro pins s σ H xs us Q I r h
  obtain ⟨x, d, rfl, hx, hd, h1, h2, h3, h4, q⟩ := h
  rcases hx with ⟨i, rfl⟩ | ⟨a, rfl⟩
  · obtain ⟨u, rfl, t, rfl⟩ := vals1 r
    cases hd
    have hz : i.natAbs.log2 < 1920 := of_decide_eq_true h1
    exact PySem.P.repr_of_int hz ⟨.str _, H, I.tok _, ⟨_, rfl⟩, q⟩
  · exact call_reprD hG hr pins s σ H _ us Q I r ⟨a, d, rfl, hd, h1, h2, h3, h4, q⟩
section
variable {CX : CXT} {P : Program} {w : World} {K : PySem.W.Frag} {mg : Str → Option Value} {base : Heap}
theorem g_of {k : Nat} {f : Addr} {x qual : Str} {st : Stmt} {fd : FuncData} {N ps : List Str} {sp : Sp} (F : Fun K x qual st f fd) (S : FnScope N ps (defScope st)) (len : ∀ vs H Q E, sp vs H Q E → vs.length = ps.length)
    (body : ∀ (cdv : Value) (A : Around) (outer : List Env) (s : Shared) (H : Hp) (vs : List V) (Q : VK) (E : XK), A.guards = some [] → Room k (A.deeper (envOfC qual (defScope st) s.heap.objs.size f cdv)) → sp vs H Q E →
      ∃ t, PSs (cxOf CX P w K mg base N qual (defScope st) f cdv A outer s H E) (defBody st) t ∧ t { nx := fun _ H' => Q .non H', rt := Q } (start N vs) H) :
    GRun P w K mg base CX (k + 1) f fd ps sp := by
  intro A outer s H args us vs Q E hG hr e0 hb rv hsp
  obtain ⟨oc, od, kV, doc, pm, an, cdv, ct, osl, rfl, lk, hcd⟩ := F.ex
  have n1 := len _ _ _ _ hsp
  have inS : ∀ b o, base.get? b = some o → s.heap.get? b = some o := fun b o e => (e0.bs b o e).1
  have KS : K.In s.heap := e0.mod.kin.keeps inS
  have LS : s.heap.NoLimit := e0.mod.nolimit.keeps inS
  refine codeAny_call_function hr.depth (KS _ _ lk) rfl S.co S.gen rfl (PySem.W.codeRec_of KS hcd) (hb _ _ _ _ ?_)
  have kinds : ∀ y ∈ ps.zip us, (defScope st).names.lookup y.1 = some .local ∨ ((defScope st).names.lookup y.1 = some .cell ∧ ((cellsFrom (s.heap.objs.size + 1) (defScope st).names []).lookup y.1).isSome = true) := by
    rintro ⟨n, v⟩ hy
    have hp := S.par n (List.of_mem_zip hy).1
    exact hp.imp_right fun c => ⟨c, PySem.W.cellsFrom_some _ _ _ (.inl c)⟩
  refine wpAny_newFunctionEnv_cells S.kind kinds fun env he s1 x => ?_
  subst he
  obtain ⟨t, ht, hq⟩ := body cdv A outer s H vs Q E hG (hr.deeper _) hsp
  have I := inv_start (CX := CX) (E := E) S hr.hd e0 n1 rv x
  refine ⟨LS.keeps x.toInCall.keep, codeAny_func (wpAny_mono (ht.run [] s1 (start N vs) H _ I hq) (fun fl s2 hs => ?_) fun _ _ z => z)⟩
  match fl, hs with
  | .ret u, ⟨v, σ2, H2, J, rv2, q⟩ => exact ⟨v, H2, J.os, J.bare, J.base, J.hok, rv2, q⟩
  | .next, ⟨σ2, H2, J, q⟩ => exact ⟨V.non, H2, J.os, J.bare, J.base, J.hok, rfl, q⟩
  | .brk, ⟨_, _, _, q⟩ => exact q.elim
  | .cont, ⟨_, _, _, q⟩ => exact q.elim
/-- the same of a def that lets nothing out -/
theorem g_ok {k : Nat} {f : Addr} {x qual : Str} {st : Stmt} {fd : FuncData} {N ps : List Str} {sp : Sp} (F : Fun K x qual st f fd) (S : FnScope N ps (defScope st)) (len : ∀ vs H Q E, sp vs H Q E → vs.length = ps.length)
    (body : ∀ (cdv : Value) (A : Around) (outer : List Env) (s : Shared) (H : Hp) (vs : List V) (Q : VK) (E : XK), A.guards = some [] → Room k (A.deeper (envOfC qual (defScope st) s.heap.objs.size f cdv)) → sp vs H Q E →
      ∃ t, PSs (cxOf CX0 P w K mg base N qual (defScope st) f cdv A outer s H E).nox (defBody st) t ∧ t { nx := fun _ H' => Q .non H', rt := Q } (start N vs) H) :
    GRun P w K mg base CX0 (k + 1) f fd ps sp :=
  g_of F S len fun cdv A outer s H vs Q E hG hr hs => by
    obtain ⟨t, h, q⟩ := body cdv A outer s H vs Q E hG hr hs
    exact ⟨t, h.nox, q⟩
end
end Lot
namespace Lot
open PySem PySem.Spec PyProof.Rows L2
section
variable {CX : CXT} {P : Program} {w : World} {K : PySem.W.Frag} {mg mb : Str → Option Value}
/-- what is tracked as a row's law is called: the script, if it is no object of the module's own -/
def onlyScript (K : PySem.W.Frag) (a : Addr) (o : Obj) (xs : List V) : Hp := fun b => if b = a ∧ K.lookup a = none then some (.frz o (.lst xs)) else none
theorem onlyScript_some {a b : Addr} {o : Obj} {xs : List V} {u : HO} (h : onlyScript K a o xs b = some u) : b = a ∧ K.lookup a = none ∧ u = .frz o (.lst xs) := by
  unfold onlyScript at h
  by_cases c : b = a ∧ K.lookup a = none
  · rw [if_pos c] at h
    exact ⟨c.1, c.2, (Option.some.inj h).symm⟩
  · rw [if_neg c] at h
    cases h
theorem row_call {fa a : Addr} {s : Shared} {vs : List Value} {ns : List Int} (KS : K.In s.heap) (gS : s.heap.Ns mainGlobals mg) (bS : s.heap.Ns builtinsNs mb) (bb : ∀ x : Str, x ≠ "__name__" → mb x = bootBuiltins x) (lS : s.heap.NoLimit) (gens : s.gens = #[])
    (at_a : s.heap.get? a = some { cls := .type "list", data := .seq vs.toArray }) (hi : IntsAre vs ns) (few : ns.length ≤ sizeLine)
    (run : ∀ base H, K.In base → base.Ns mainGlobals mg → Only H → SqL K H a (ns.map V.int) → Env0 P w K mg base callerA [] s H →
      codeAny (model P w) callerA (.call (.ref fa) ⟨[.ref a], []⟩) (CR CX [] P w H s (fun v _ => v = .bl true) fun _ _ _ => False) s)
    (noX : ∀ H e s', CX [] H s (fun _ _ _ => False) e s' → False) :
    codeAny (model P w) callerA (.call (.ref fa) ⟨[.ref a], []⟩) (fun r s' => r = .ok (.ret (.bool true)) ∧ OldK s.heap s'.heap ∧ s'.os = s.os ∧ AllBare s'.gens) s := by
  have rv := vals_ints hi
  have same := hi.length
  obtain ⟨o, ho⟩ : ∃ o : Obj, o = { cls := .type "list", data := .seq vs.toArray } := ⟨_, rfl⟩
  rw [← ho] at at_a
  obtain ⟨H, hH⟩ : ∃ H, H = onlyScript K a o (ns.map V.int) := ⟨_, rfl⟩
  have told : ∀ {b u}, H b = some u → b = a ∧ K.lookup a = none ∧ u = .frz o (.lst (ns.map V.int)) := fun {b u} e => by
    rw [hH] at e
    exact onlyScript_some e
  have only : Only H := fun b => by
    cases e : H b with
    | none => exact .inl rfl
    | some u =>
      obtain ⟨_, _, rfl⟩ := told e
      exact .inr ⟨_, _, rfl⟩
  have hok : HOk P w H s.heap := fun b u e => by
    obtain ⟨rfl, _, rfl⟩ := told e
    subst ho
    exact ⟨at_a, by rw [List.length_map]; exact few, vs, _, rv, at_a⟩
  have list : SqL K H a (ns.map V.int) := by
    cases e : K.lookup a with
    | none => exact .inl (.inr ⟨o, by rw [hH]; unfold onlyScript; rw [if_pos ⟨rfl, e⟩]⟩)
    | some o2 =>
      have e2 := KS a o2 e
      rw [at_a] at e2
      cases e2
      subst ho
      exact .inr ⟨_, vs.toArray, _, e, rfl, rfl, rfl, by rw [List.size_toArray, same]; exact few, by simpa using rv⟩
  have untold : ∀ {b : Addr} {u : Obj}, s.heap.get? b = some u → (K.lookup b = some u ∨ ∃ es ep, u.data = .dict es ep) → H b = none := fun {b u} e c => by
    cases q : H b with
    | none => rfl
    | some t =>
      obtain ⟨rfl, k, _⟩ := told q
      rcases c with c | ⟨es, ep, c⟩
      · rw [k] at c; cases c
      · rw [at_a] at e
        cases e
        subst ho
        cases c
  have names : ∀ {b : Addr} {m : Str → Option Value}, s.heap.Ns b m → (hidT s.heap H).Ns b m := fun {b m} ⟨u, es, ep, e, d, r⟩ => ⟨u, es, ep, hidT_get e (untold e (.inr ⟨es, ep, d⟩)), d, r⟩
  have KB : K.In (hidT s.heap H) := fun b u e => hidT_get (KS b u e) (untold (KS b u e) (.inl e))
  have mod : Mod K mg (hidT s.heap H) := ⟨KB, names gS, ⟨mb, names bS, bb⟩, by obtain ⟨mc, h1, h2⟩ := lS; exact ⟨mc, names h1, h2⟩⟩
  have e0 : Env0 P w K mg (hidT s.heap H) callerA [] s H := ⟨rfl, mod, fun b u e => of_hidT e, Nat.le_of_eq (hidT_size _ _), trivial, fun b hb => (List.not_mem_nil hb).elim, hok, .of_eq gens⟩
  refine codeAny_mono (run _ H KB (names gS) only list e0) fun r s' h => ?_
  match r, h with
  | .error e, h => exact (noX H e s' h).elim
  | .ok .next, h => exact h.elim
  | .ok .brk, h => exact h.elim
  | .ok .cont, h => exact h.elim
  | .ok (.ret u), ⟨v, H', os, bare, un, hok', r', q⟩ =>
    obtain rfl : v = .bl true := q
    obtain rfl : u = Value.bool true := r'
    refine ⟨rfl, OldK.of_keep fun b u e => ?_, os, bare⟩
    cases q : H b with
    | none => exact un.keep b u e q (fun z => (List.not_mem_nil (show b ∈ ([] : List Addr) from z)).elim) (fun z => (List.not_mem_nil z).elim)
    | some t =>
      obtain ⟨rfl, _, rfl⟩ := told q
      have k := un.frzs b o _ q
      obtain ⟨e1, _⟩ := hok b _ q
      obtain ⟨e2, _⟩ := hok' b _ k
      rw [e] at e1
      cases e1
      exact e2
end
/-- a row's law by what its def does where nothing is being shown -/
theorem walk_g {l : PySem.W.OpenLaw} {n k : Nat} {q : Program} {loose : List Str} {XP : (Str → Option Value) → Heap → Prop} {YP : World → Heap → Prop} {d : DefRec} {K : Params → PySem.W.Frag} {CX : World → CXT} {sp : World → Sp} {x : Str}
    (hn : l.most = some n) (hn2 : n ≤ sizeLine) (hdf : d.params.defaults = []) (hr : Room k callerA) (hY : ∀ w h, YP w h → (K w.params).In h)
    (F : ∀ (w : World) (mg : Str → Option Value) (fa : Addr) (h : Heap), (K w.params).In h → h.Ns mainGlobals mg → mg d.name = some (.ref fa) →
      ∃ fd : FuncData, (∀ (s : Shared) (u : Value), BindsTo s fd ⟨[u], []⟩ [(x, u)]) ∧ ∀ base : Heap, (K w.params).In base → base.Ns mainGlobals mg → GRun l.prog w (K w.params) mg base (CX w) k fa fd [x] (sp w))
    (hsp : ∀ (w : World) (H : Hp) (a : Addr) (ns : List Int), ns.length ≤ n → Only H → SqL (K w.params) H a (ns.map V.int) → sp w [.ref a] H (fun v _ => v = .bl true) fun _ _ _ => False)
    (hCX : ∀ (w : World) (H : Hp) (s : Shared) (e : Value) (s' : Shared), CX w [] H s (fun _ _ _ => False) e s' → False) :
    PySem.W.WalkO q loose XP YP l.row.toRowW d [] (fun f vs => PySem.call f vs) := by
  refine Att.attach_call hn hdf fun w s0 s1 mg mb fa o pm cd doc a vs ns G Y ho hd hcd hmg hobj hints hlen hg => ?_
  obtain ⟨fd, hb, hF⟩ := F w mg fa _ (hY w _ Y) G.T.g hmg
  refine row_call (hY w _ Y) G.T.g G.T.b G.T.builtins G.T.nolimit hg hobj hints (Nat.le_trans hlen hn2) (fun base H k1 k2 k3 k4 e0 => ?_) fun H e s' => hCX w H s1 e s'
  exact hF base k1 k2 callerA [] s1 H ⟨[.ref a], []⟩ [.ref a] [.ref a] _ _ rfl hr e0 (hb s1 (.ref a)) (.cons rfl .nil) (hsp w H a ns hlen k3 k4)
end Lot
/-! ### standings as data -/
namespace Lot
open PySem PySem.Spec PyProof.Rows L2
def dth (th : Str × Nat) : PyData := .tuple [.str th.1, .int th.2]
def dStand (ths : List (Str × Nat)) : PyData := .tuple (ths.map dth)
theorem dStand_inj : ∀ {a b : List (Str × Nat)}, a.map dth = b.map dth → a = b
  | [], [], _ => rfl
  | [], _ :: _, h => by cases h
  | _ :: _, [], h => by cases h
  | (x, i) :: a, (y, j) :: b, h => by
    have h' : dth (x, i) :: a.map dth = dth (y, j) :: b.map dth := h
    obtain ⟨h1, h2⟩ := List.cons.inj h'
    have h3 : PyData.tuple [.str x, .int (i : Int)] = .tuple [.str y, .int (j : Int)] := h1
    obtain ⟨h4, h5⟩ := List.cons.inj (PyData.tuple.inj h3)
    have h6 := (List.cons.inj h5).1
    have e1 : x = y := PyData.str.inj h4
    have e2 : i = j := Int.ofNat.inj (PyData.int.inj h6)
    rw [e1, e2, dStand_inj h2]
theorem Things.data {K : PySem.W.Frag} {H : Hp} : ∀ {as : List Addr} {ths : List (Str × Nat)}, Things H as ths → DpAll K H (as.map V.ref) (ths.map dth)
  | [], [], _ => .nil
  | a :: as, t :: ts, h => .cons (.tup (.inl (.inl h.1)) (.cons (.str _) (.cons (.int _) .nil))) (Things.data h.2)
  | [], _ :: _, h => h.elim
  | _ :: _, [], h => h.elim
theorem StandAt.data {K : PySem.W.Frag} {H : Hp} {t : Addr} {ths : List (Str × Nat)} (h : StandAt H t ths) : Dp K H (.ref t) (dStand ths) := by
  obtain ⟨as, e, g⟩ := h
  exact .tup (.inl (.inl e)) g.data
theorem dAll_show : ∀ {ths : List (Str × Nat)}, (∀ th ∈ ths, ThOk th) → PyData.showableAll (ths.map dth) = true
  | [], _ => rfl
  | th :: r, h => by
    have ih := dAll_show fun x hx => h x (List.mem_cons_of_mem _ hx)
    have h2 := (h th List.mem_cons_self).2
    show (PyData.showable (dth th) && PyData.showableAll (r.map dth)) = true
    rw [ih, Bool.and_true]
    have : PyData.showable (dth th) = (true && (decide (((th.2 : Int)).natAbs.log2 < 1920) && true)) := rfl
    rw [this]
    have h3 : th.2 = 0 ∨ th.2 = 1 := by omega
    rcases h3 with h3 | h3 <;> rw [h3] <;> decide
theorem dAll_plain : ∀ (ths : List (Str × Nat)), PyData.hasDictAll (ths.map dth) = false
  | [] => rfl
  | th :: r => by
    show (PyData.hasDict (dth th) || PyData.hasDictAll (r.map dth)) = false
    rw [dAll_plain r]
    rfl
theorem dAll_depth : ∀ (ths : List (Str × Nat)), PyData.depthAll (ths.map dth) ≤ 1
  | [] => Nat.zero_le _
  | th :: r => by
    have ih := dAll_depth r
    show max (PyData.depth (dth th)) (PyData.depthAll (r.map dth)) ≤ 1
    have : PyData.depth (dth th) = 1 := rfl
    omega
theorem tuple_le {ts : List Str} {m n : Nat} (h : ∀ t ∈ ts, t.length ≤ m) (hn : ts.length ≤ n) : (tupleText ts).length ≤ n * (m + 2) + 2 := by
  have h1 := PySem.fmt_text ts
  have h2 : piled ts ≤ ts.length * (m + 2) := by
    clear hn h1
    induction ts with
    | nil => exact Nat.zero_le _
    | cons t r ih =>
      have := ih fun x hx => h x (List.mem_cons_of_mem _ hx)
      have := h t List.mem_cons_self
      rw [piled_cons, List.length_cons, Nat.succ_mul]
      omega
  have h3 : ts.length * (m + 2) ≤ n * (m + 2) := Nat.mul_le_mul_right _ hn
  omega
theorem dth_len {th : Str × Nat} (h : ThOk th) : (PyData.shown (dth th)).length ≤ 2 * (50 + 2) + 2 := by
  show (tupleText [reprText th.1, toString ((th.2 : Nat) : Int)]).length ≤ _
  refine tuple_le (m := 50) (n := 2) (fun t ht => ?_) (Nat.le_refl _)
  rcases List.mem_cons.mp ht with rfl | ht
  · have := StrLaws.reprText_len th.1 fun c hc => by
      have := (h.1.2.2 c hc).2
      have e : 123 < 16 ^ 8 := by decide
      omega
    have h4 := h.1.2.1
    omega
  · rw [List.mem_singleton.mp ht]
    have h3 : th.2 = 0 ∨ th.2 = 1 := by have := h.2; omega
    rcases h3 with h3 | h3 <;> rw [h3] <;> decide +kernel
theorem shownAll_map : ∀ (ths : List (Str × Nat)), PyData.shownAll (ths.map dth) = ths.map fun th => PyData.shown (dth th)
  | [] => rfl
  | th :: r => by
    show PyData.shown (dth th) :: PyData.shownAll (r.map dth) = _
    rw [shownAll_map r]
    rfl
/-- what repr asks of a standing -/
theorem dStand_ok {ths : List (Str × Nat)} (h : ∀ th ∈ ths, ThOk th) (hl : ths.length ≤ 2000) : (dStand ths).showable = true ∧ (dStand ths).hasDict = false ∧ (dStand ths).depth ≤ 50 ∧ (dStand ths).shown.length ≤ sizeLine := by
  refine ⟨dAll_show h, dAll_plain ths, ?_, ?_⟩
  · have := dAll_depth ths
    show PyData.depthAll (ths.map dth) + 1 ≤ 50
    omega
  · show (tupleText (PyData.shownAll (ths.map dth))).length ≤ sizeLine
    rw [shownAll_map]
    refine Nat.le_trans (tuple_le (m := 106) (n := 2000) (fun t ht => ?_) (by rw [List.length_map]; exact hl)) (by decide)
    obtain ⟨th, hth, rfl⟩ := List.mem_map.mp ht
    exact dth_len (h th hth)
end Lot

/-! An own exception over ValueError (perhaps through other own classes) whose __init__ hands a text to super().__init__ and keeps one field. -/
namespace Lot
open PySem PySem.Spec PyProof.Rows PySem.W PySem.Calls
/-- what the written part says of the class at C, its __init__ at fI (the text st), the field fld, the text's expression msg -/
structure SupTxt (prog : Program) (K : Frag) (st : Stmt) (qual fld : Str) (msg : Expr) (C fI cc cda : Addr) : Prop where
  cls : ∃ nm q N bs bm sn sub ab col dd k0 k1 k2 k3 k5, K.lookup C = some (excClassObj nm q C N bs bm true sn sub ab col dd k0 k1 k2 k3 k5 "ValueError.__new__") ∧ HandSPX.refsVE bm = true
  sa : findIn K (.ref C) "__setattr__" = some (some (.builtin "object.__setattr__"))
  ga : findIn K (.ref C) "__getattribute__" = some (some (.builtin "BaseException.__getattribute__"))
  gg : findIn K (.ref C) "__getattr__" = some none
  no : findIn K (.ref C) fld = some none
  iC : findIn K (.ref C) "__init__" = some (some (.ref fI))
  tI : typeIn K (.ref fI) = some (.type "function")
  kC : keepIn K (.ref C) = true
  exC : subIn K (.ref C) (.type "BaseException") = some true
  vE : subIn K (.ref C) (.type "ValueError") = some true
  tyC : typeIn K (.ref C) = some (.type "type")
  hdC : hasDictIn K C = true
  te : exmOne K (.ref C) (.ref C) = some true
  op : nsIn K cStatics "thirdparty.any" = some none
  mr : mroIn K C (.ref C) = some true
  su : ks_superIn K C C "__init__" = some (some (.builtin "ValueError.__init__"))
  ns : nsIn K mainGlobals "super" = some none
  fn : ∃ oc od kV doc pm an ct osl, K.lookup fI = some ⟨oc, od, .func (ksFn "__init__" qual (L2.defArgs st) (L2.defBody st) (L2.defScope st) .none kV doc pm an (.ref cda) ct cc), osl⟩ ∧
    (∀ (s : Shared) (x : Addr) (v : Value), BindsTo s (ksFn "__init__" qual (L2.defArgs st) (L2.defBody st) (L2.defScope st) .none kV doc pm an (.ref cda) ct cc) ⟨[.ref x, v], []⟩ [("self", .ref x), (fld, v)])
  cd : codeIn K (.ref cda) qual = true
  file : ∃ ccl cdd vs ccs file tf, K.lookup cda = some ⟨ccl, cdd, .fields vs, ccs⟩ ∧ vs[2]? = some (.str file tf) ∧ ((prog.main.file : Str) == file) = true
  cell : ∃ cl cld csl, K.lookup cc = some ⟨cl, cld, .cell (some (.ref C)), csl⟩
  top : (prog.main.scope.names.lookup ("super" : Str)).isSome = false
/-- .. and of its text -/
structure SupText (st : Stmt) (fld : Str) (msg : Expr) : Prop where
  body : ∃ p0 p1 p2 p3 p4 q1 q2 q3 q4, L2.defBody st = [.Expr (.Call (.Attribute (.Call (.Name "super" p0) [] [] p1) "__init__" p2) [msg] [] p3) p4, .Assign [.Attribute (.Name "self" q1) fld q2] (.Name fld q3) q4] ∧
    ∃ pl : Sem Bool, ∀ env, eval (.Call (.Attribute (.Call (.Name "super" p0) [] [] p1) "__init__" p2) [msg] [] p3) env = (do
      let ov ← attributeBase (.Call (.Name "super" p0) [] [] p1) "__init__" env (eval (.Call (.Name "super" p0) [] [] p1) env)
      standAt p2.atName
      let (f, first) ← holding [ov] (getMethod ov "__init__" pl)
      callWith p3 f first (backTo p3 (starEach [msg] env)) [])
  star : ∀ env, starEach [msg] env = [(false, eval msg env)]
  scope : L2.defScope st = { kind := .function, names := [(Str.ofString "self", .local), (fld, .local), (Str.ofString "__class__", .free), (Str.ofString "super", .globalImplicit)], isGenerator := false, isCoroutine := false, more := [] }
  head : ((L2.defArgs st).posonlyargs ++ (L2.defArgs st).args).head?.map (·.arg) = some ("self" : Str)
  ne : ((Str.ofString "self") == fld) = false ∧ ((Str.ofString "__class__") == fld) = false ∧ ((Str.ofString "super") == fld) = false ∧ (fld == ("__debug__" : Str)) = false ∧ (fld == (Str.ofString "self")) = false
/-- what is left of a fresh exception at x -/
structure SupEnd (h h' : Heap) (x C dx t1 : Addr) (fld : Str) (v : Value) : Prop where
  keep : ∀ b o, b ≠ x → h.get? b = some o → h'.get? b = some o
  obj : h'.get? x = some { cls := .ref C, dict := some dx, data := .fields #[.ref t1, .none, .none, .none, .bool false, .none] }
  dbig : h.objs.size ≤ dx
  dne : dx ≠ x
  ns : h'.Ns1 dx (fun y => if y = fld then some v else none)
/-- the text's expression gives a text, and changes nothing -/
def MsgOk (prog : Program) (w : World) (msg : Expr) (fld : Str) (ok : Value → Prop) : Prop :=
  ∀ (A : Around) (E : Value → Shared → Prop) (Q : Value → Shared → Prop) (env : Env) (v : Value) (s : Shared) (m : Str → Option Value), env.scope.kind = .function → env.kindOf fld = some .local → s.heap.Ns env.locals m → m fld = some v → ok v →
    (∀ z tk tk2, Q (.str z tk) { s with toks := tk2 }) → wpAny (model prog w) A (eval msg env) Q E s
section
variable {prog : Program} {w : World} {A : Around} {R : Result → Shared → Prop} {K : Frag} {mg mb : Str → Option Value} {st : Stmt} {qual fld : Str} {msg : Expr} {C fI cc cda : Addr} {ok : Value → Prop}
theorem kept_but {h h' : Heap} {x : Addr} (X : K.In h) (hx : K.lookup x = none) (k : ∀ b o, b ≠ x → h.get? b = some o → h'.get? b = some o) : K.In h' := fun a o e =>
  k a o (fun z => by rw [z, hx] at e; cases e) (X a o e)
theorem sup_init (T : SupTxt prog K st qual fld msg C fI cc cda) (Tx : SupText st fld msg) (M : MsgOk prog w msg fld ok) {s : Shared} {x t0 : Addr} {v : Value} (KS : K.In s.heap) (gS : s.heap.Ns mainGlobals mg) (bS : s.heap.Ns builtinsNs mb)
    (bb : ∀ y : Str, y ≠ "__name__" → mb y = bootBuiltins y) (lS : s.heap.NoLimit) (hx : s.heap.get? x = some (HandSPX.excO C t0)) (hxK : K.lookup x = none) (room : A.depth < recursionLimit) (hv : ok v)
    (hq : ∀ h' tk dx t1, SupEnd s.heap h' x C dx t1 fld v → R (.ok (.ret .none)) { s with heap := h', toks := tk }) :
    codeAny (model prog w) A (.call (.ref fI) ⟨[.ref x, v], []⟩) R s := by
  obtain ⟨oc, od, kV, doc, pm, an, ct, osl, lk, hbind⟩ := T.fn
  obtain ⟨nm, q, N, bs, bm, sn, sub, ab, col, dd, k0, k1, k2, k3, k5, hC, hbm⟩ := T.cls
  obtain ⟨ccl, cdd, vs, ccs, file, tf, hcode, hvs, hfile⟩ := T.file
  obtain ⟨cl, cld, csl, hcell⟩ := T.cell
  obtain ⟨p0, p1, p2, p3, p4, q1, q2, q3, q4, eb, pl, heval⟩ := Tx.body
  have es := Tx.scope
  obtain ⟨n1, n2, n3, n4, n5⟩ := Tx.ne
  have hcl : clsIn K C = some { name := nm, bases := bs, mro := .ref C :: bm, ns := N, qualname := q, hasDict := true, slotNames := sn, subclasses := sub, abstract := ab, collection := col, hasDel := false } := by unfold clsIn; rw [hC] <;> rfl
  have lself : List.lookup (Str.ofString "self") (L2.defScope st).names = some .local := by rw [es]; rfl
  have lfld : List.lookup fld (L2.defScope st).names = some .local := by
    rw [es]
    show List.lookup fld [(Str.ofString "self", NameKind.local), (fld, .local), _, _] = _
    rw [List.lookup_cons, n5, List.lookup_cons]
    simp
  have lcl : List.lookup (Str.ofString "__class__") (L2.defScope st).names = some .free := by
    rw [es]
    show List.lookup (Str.ofString "__class__") [(Str.ofString "self", NameKind.local), (fld, .local), (Str.ofString "__class__", .free), _] = _
    rw [List.lookup_cons, show (Str.ofString "__class__" == Str.ofString "self") = false by decide +kernel, List.lookup_cons, n2]
    rfl
  have lsu : List.lookup (Str.ofString "super") (L2.defScope st).names = some .globalImplicit := by
    rw [es]
    show List.lookup (Str.ofString "super") [(Str.ofString "self", NameKind.local), (fld, .local), (Str.ofString "__class__", .free), (Str.ofString "super", .globalImplicit)] = _
    rw [List.lookup_cons, show (Str.ofString "super" == Str.ofString "self") = false by decide +kernel, List.lookup_cons, n3]
    rfl
  have kf : (L2.defScope st).kind = .function := by rw [es]
  refine ks_codeAny_call_defAt (body := L2.defBody st) (binds := [("self", .ref x), (fld, v)]) room (KS _ _ lk) rfl lS (codeRec_of KS T.cd) rfl (hbind s x v) ?_ ?_ (fun h1 ns1 k1' => ?_) (by show (L2.defScope st).isCoroutine = false; rw [es]) (by show (L2.defScope st).isGenerator = false; rw [es]) kf
  · show ∀ y ∈ (L2.defScope st).names, y.2 ≠ .cell
    rw [es]
    intro y hy
    simp only [List.mem_cons, List.not_mem_nil, or_false] at hy
    rcases hy with rfl | rfl | rfl | rfl <;> exact fun z => NameKind.noConfusion z
  · intro y hy
    simp only [List.mem_cons, List.not_mem_nil, or_false] at hy
    rcases hy with rfl | rfl
    · exact lself
    · exact lfld
  obtain ⟨L, hL⟩ : ∃ L, L = s.heap.objs.size := ⟨_, rfl⟩
  rw [← hL] at ns1
  rw [← hL]
  have X1 : K.In h1 := KS.keeps k1'
  have hx1 := k1' _ _ hx
  have self1 : [(Str.ofString "self", Value.ref x), (fld, v)].reverse.lookup (Str.ofString "self") = some (.ref x) := by
    show List.lookup (Str.ofString "self") [(fld, v), (Str.ofString "self", Value.ref x)] = _
    rw [List.lookup_cons, n1]
    simp
  have fld1 : [(Str.ofString "self", Value.ref x), (fld, v)].reverse.lookup fld = some v := by
    show List.lookup fld [(fld, v), (Str.ofString "self", Value.ref x)] = _
    rw [List.lookup_cons]
    simp
  obtain ⟨ar, har, hname⟩ : ∃ ar : Arg, ((L2.defArgs st).posonlyargs ++ (L2.defArgs st).args).head? = some ar ∧ ar.arg = Str.ofString "self" := by
    have := Tx.head
    cases e : ((L2.defArgs st).posonlyargs ++ (L2.defArgs st).args).head? with
    | none => rw [e] at this; cases this
    | some ar =>
      rw [e] at this
      exact ⟨ar, rfl, Option.some.inj this⟩
  show PySem.wpAt _ (A.deeper (ksEnv qual (L2.defScope st) L fI (.ref cda) cc)) (.func (L2.defBody st) (ksEnv qual (L2.defScope st) L fI (.ref cda) cc)) (execs (L2.defBody st) (ksEnv qual (L2.defScope st) L fI (.ref cda) cc)) _ _ _
  generalize hbody : L2.defBody st = body at *
  obtain rfl := eb
  have hi : interactive (ksEnv qual (L2.defScope st) L fI (.ref cda) cc) = false := by
    show ((L2.defScope st).kind == .module && _) = false
    rw [kf]
    rfl
  refine ks_wpAt_execs_cons (ks_wpAt_Expr_any (ks_wpAt_MethodCall (pl := pl) ?_ (heval _)) hi)
  refine ks_wpAt_super_base (env := ksEnv qual (L2.defScope st) L fI (.ref cda) cc) (fd := ksFn "__init__" qual (L2.defArgs st) _ (L2.defScope st) .none kV doc pm an (.ref cda) ct cc) lsu lcl (by decide +kernel) rfl (X1 _ _ lk) rfl har rfl (X1 _ _ hcode) rfl hvs hfile T.top ?_
  refine ks_loadName_global kf lsu (loadGlobal_builtin (env := ksEnv qual (L2.defScope st) L fI (.ref cda) cc) (gS.keeps k1') ?sg (bS.keeps k1') ((bb _ (by decide +kernel)).trans PyProof.Rows.Boot.«super») ⟨rfl, ?_⟩)
  case sg => exact mg_none_of KS gS T.ns
  refine wpAny_loadName_free kf lcl rfl ⟨_, X1 _ _ hcell, rfl⟩ ?_
  rw [hname]
  refine wpAny_loadName_local kf lself ns1 self1 ?_
  obtain ⟨oD, hD1, hD2⟩ : ∃ oD, h1.get? C = some oD ∧ oD.data = .cls { name := nm, bases := bs, mro := .ref C :: bm, ns := N, qualname := q, hasDict := true, slotNames := sn, subclasses := sub, abstract := ab, collection := col, hasDel := false } := ⟨_, X1 _ _ hC, rfl⟩
  refine ks_wpAny_isType_cls hD1 hD2 ⟨rfl, ?_⟩
  refine ks_wpAny_call_super hD1 hD2 hx1 rfl (fun c e => by cases e) (looks_mroIn X1 T.mr) (fun h2 e2 k2 => ?_)
  have X2 : K.In h2 := X1.keeps k2
  have hx2 := k2 _ _ hx1
  have I2 : InstAt h2 x (HandSPX.excO C t0) C none := ⟨hx2, rfl, rfl, trivial⟩
  have su := T.su
  unfold ks_superIn at su
  rw [hcl] at su
  refine kxs_getMethod kxs_ValueError e2 (looks_opaque X2 T.op) (l₀ := .ref C :: bm) (fun A Q E s k q => wpAny_bind ((looks_clsIn X2 hcl) A _ E s k (wpAny_pure q))) rfl X2 su (I2.type.andThen (looks_subIn X2 T.vE)) (ks_ne X2 I2 hcl) (by decide +kernel) ?_
  have hu : (h2.push (kxs_mw "ValueError.__init__" x)).get? h2.objs.size = some (kxs_mw "ValueError.__init__" x) := Heap.get?_push_at rfl rfl
  have k3 : ∀ b o, h2.get? b = some o → (h2.push (kxs_mw "ValueError.__init__" x)).get? b = some o := fun b o e => Heap.get?_push_of_some _ e
  obtain ⟨u, hue⟩ : ∃ u, u = h2.objs.size := ⟨_, rfl⟩
  rw [← hue] at hu
  rw [← hue]
  have kk : ∀ b o, h1.get? b = some o → (h2.push (kxs_mw "ValueError.__init__" x)).get? b = some o := fun b o e => k3 b o (k2 b o e)
  have hx3 := k3 _ _ hx2
  have X3 : K.In (h2.push (kxs_mw "ValueError.__init__" x)) := X2.keeps k3
  have big : L ≤ (h2.push (kxs_mw "ValueError.__init__" x)).objs.size := by
    obtain ⟨oL, es, ep, eL, _⟩ := ns1
    exact Nat.le_of_lt (Heap.lt_size (kk _ _ eL))
  have ns3 : (h2.push (kxs_mw "ValueError.__init__" x)).Ns L (fun y => [(Str.ofString "self", Value.ref x), (fld, v)].reverse.lookup y) := ns1.keeps kk
  generalize (h2.push (kxs_mw "ValueError.__init__" x)) = h3 at *
  show wpAny _ _ (callWith p3 (.ref u) [] (backTo p3 (starEach [msg] _)) []) _ _ _
  rw [Tx.star]
  refine kxs_callWith (i := "ValueError.__init__") (x := x) rfl (evalArgs_plain (Calls.spliced_cons (M _ _ _ _ v _ _ kf lfld ns3 fld1 hv fun z tk tk2 => Calls.spliced_nil ⟨hu, ?_⟩)))
  show wpAny _ _ (call (.ref u) [.str z tk]) _ _ _
  have FB := F.excBase_ValueError
  refine wpAny_call (codeAny_of_tree ?_)
  show wpAny _ (Around.in1 _) (callAny (.ref u) ⟨[.str z tk], []⟩) _ _ _
  simp only [callAny]
  refine wpAny_bind (wpAny_load hu ?_)
  have w1 : (Value.type "method-wrapper" == Value.type "method" || Value.type "method-wrapper" == Value.type "builtin_function_or_method" || Value.type "method-wrapper" == Value.type "method-wrapper") = true := by decide
  simp only [kxs_mw, w1, if_true]
  refine KFB.if_so (by decide) ?_
  refine wpAny_bind (check_bound_init FB.toExcCallFacts (X3 _ _ hC) hx3 rfl ?_)
  refine wpAny_bind (wpAny_pure (wpAny_pure ?_))
  refine ⟨plainId_quiet FB.init.plain _, codeAny_builtin FB.initEntry ?_⟩
  refine exc_init_tree (cls := .ref C) (t0 := t0) (dv := none) (c2 := .none) (c3 := .none) (b4 := .bool false) hx3 (by show 1 ≤ sizeLine; decide) (fun h4 k4 e4 f4 => ?_)
  -- self.fld = fld
  have xL : L ≠ x := fun z => by
    have := Heap.lt_size hx
    rw [← hL, z] at this
    exact Nat.lt_irrefl _ this
  have ns4 : h4.Ns L (fun y => [(Str.ofString "self", Value.ref x), (fld, v)].reverse.lookup y) := by
    obtain ⟨oL, es', ep, eL, r⟩ := ns3
    exact ⟨oL, es', ep, k4 _ _ xL eL, r⟩
  have X4 : K.In h4 := kept_but X3 hxK k4
  refine wpAt_of_wpAny (wpAny_execs_cons (plainObj_wpAny_Assign_Attribute ?_ ?sw))
  case sw => rfl
  refine ESX.ldL (v := v) ns4 fld1 (ESX.ldL (v := .ref x) ns4 self1 ?_ kf lself (by decide +kernel)) kf lfld n4
  have hx4 : h4.get? x = some { cls := .ref C, data := .fields #[.ref h3.objs.size, .none, .none, .none, .bool false, .none] } := e4
  refine set_plain X4 (ox := { cls := .ref C, data := .fields #[.ref h3.objs.size, .none, .none, .none, .bool false, .none] }) (od := none) ⟨hx4, rfl, rfl, trivial⟩ T.sa ?_
  refine HandSPX.exc_osa X4 hx4 hcl (show HandSPX.refsVE (.ref C :: bm) = true from hbm) rfl T.no (fun h5 tk5 dx k5 dn dne hx5 hn5 => ?_)
  show wpAny _ _ (execs [] _) _ _ _
  refine wpAny_execs_nil (hq h5 _ dx h3.objs.size ⟨fun b o hb e => k5 b o hb (k4 b o hb (kk b o (k1' b o e))), hx5, ?_, dne, hn5⟩)
  have b3 : h3.objs.size ≤ h4.objs.size := Nat.le_of_lt (Heap.lt_size f4)
  have b1 : s.heap.objs.size ≤ h3.objs.size := by rw [← hL]; exact big
  exact Nat.le_trans b1 (Nat.le_trans b3 dn)
end
end Lot

/-! Such an exception made, raised, its field read in a suite (after the block of the guide's 42_own_error_by_import). -/
namespace Lot
open PySem PySem.Spec PyProof.Rows PySem.W PySem.Calls
/-- a made one -/
structure SupMade (h h' : Heap) (e C d : Addr) (fld : Str) (v : Value) : Prop where
  keep : ∀ b o, h.get? b = some o → h'.get? b = some o
  new : h.objs.size ≤ e
  obj : ∃ oe vs, h'.get? e = some oe ∧ oe.cls = .ref C ∧ oe.dict = some d ∧ oe.data = .fields vs ∧ vs[1]? = some .none
  dbig : h.objs.size ≤ d
  dne : d ≠ e
  ns : h'.Ns1 d (fun y => if y = fld then some v else none)
section
variable {prog : Program} {w : World} {A : Around} {R : Result → Shared → Prop} {K : Frag} {mg mb : Str → Option Value} {st : Stmt} {qual fld : Str} {msg : Expr} {C fI cc cda : Addr} {ok : Value → Prop}
theorem sup_made (T : SupTxt prog K st qual fld msg C fI cc cda) (Tx : SupText st fld msg) (M : MsgOk prog w msg fld ok) {s : Shared} {v : Value} (KS : K.In s.heap) (gS : s.heap.Ns mainGlobals mg) (bS : s.heap.Ns builtinsNs mb)
    (bb : ∀ y : Str, y ≠ "__name__" → mb y = bootBuiltins y) (lS : s.heap.NoLimit) (room : A.depth + 1 < recursionLimit) (hv : ok v)
    (hq : ∀ h' tk e d, SupMade s.heap h' e C d fld v → R (.ok (.ret (.ref e))) { s with heap := h', toks := tk }) :
    codeAny (model prog w) A (.call (.ref C) ⟨[v], []⟩) R s := by
  obtain ⟨nm, q, N, bs, bm, sn, sub, ab, col, dd, k0, k1, k2, k3, k5, hC, hbm⟩ := T.cls
  obtain ⟨hp, g, dr, tk, os⟩ := s
  have k : ∀ b o, hp.get? b = some o → ((hp.push (kdv_tup [v])).push (HandSPX.excO C hp.objs.size)).get? b = some o := fun b o e => Heap.get?_push_of_some _ (Heap.get?_push_of_some _ e)
  have hget : ((hp.push (kdv_tup [v])).push (HandSPX.excO C hp.objs.size)).get? (hp.objs.size + 1) = some (HandSPX.excO C hp.objs.size) := by heap_get
  have hnx : K.lookup (hp.objs.size + 1) = none := by
    cases e : K.lookup (hp.objs.size + 1) with
    | none => rfl
    | some o =>
      have z : hp.get? (hp.objs.size + 1) = some o := KS _ _ e
      exact absurd (Nat.lt_of_succ_lt (Heap.lt_size z)) (Nat.lt_irrefl _)
  have sz : ((hp.push (kdv_tup [v])).push (HandSPX.excO C hp.objs.size)).objs.size = hp.objs.size + 1 + 1 := by rw [Heap.size_push, Heap.size_push]
  refine HandSPX.call_own F.excBase_ValueError (fun X => HandSPX.refsVE_contains X bm hbm) (KS _ _ hC) (looks_findIn KS T.iC) (fun self => bind_fn KS self T.tI) (by show 1 ≤ sizeLine; decide) ?_
  refine sup_init (s := ⟨(hp.push (kdv_tup [v])).push (HandSPX.excO C hp.objs.size), g, dr, tk, os⟩) T Tx M (KS.keeps k) (gS.keeps k) (bS.keeps k) bb (lS.keeps k) hget hnx ?_ hv fun h' tk' dx t1 E => ?_
  · show A.depth + 1 < recursionLimit
    exact room
  · have old : ∀ b o, hp.get? b = some o → h'.get? b = some o := fun b o e => E.keep b o (Nat.ne_of_lt (Nat.lt_succ_of_lt (Heap.lt_size e))) (k b o e)
    have z : hp.objs.size + 1 + 1 ≤ dx := by
      rw [← sz]
      exact E.dbig
    exact ⟨rfl, hq h' tk' (hp.objs.size + 1) dx ⟨old, Nat.le_succ _, ⟨_, _, E.obj, rfl, rfl, rfl, rfl⟩, Nat.le_trans (Nat.le_trans (Nat.le_succ _) (Nat.le_succ _)) z, E.dne, E.ns⟩⟩
end
end Lot
namespace Lot
open PySem PySem.Spec PyProof.Rows L2
/-- texts of one int between two written ones -/
def okInt (v : Value) : Prop := ∃ (i : Int) (t : Tok), v = .int i t ∧ i.natAbs.log2 < 1920
theorem relO_one {fld : Str} {v : V} {v' : Value} (r : RelV v v') (f : Str) : RelO (List.lookup f [(fld, v)]) (if f = fld then some v' else none) := by
  by_cases hw : f = fld
  · subst hw
    rw [if_pos rfl]
    have q : List.lookup f [(f, v)] = some v := by simp [List.lookup]
    rw [q]
    exact r
  · rw [if_neg hw]
    have qw : (f == fld) = false := by simpa using hw
    have q2 : List.lookup f [(fld, v)] = none := by simp [List.lookup, qw]
    rw [q2]
    trivial
section
variable {X : Cx} {st : Stmt} {cn qual fld : Str} {msg : Expr} {C fI cc cda : Addr} {okV : V → Prop} {ok : Value → Prop}
/-- C(e) -/
def tMkSup (C : Addr) (fld : Str) (okV : V → Prop) (ta : TA) : L2.St → Hp → XK → Prop := fun σ H Q => ta σ H fun vs H1 => ∃ v, vs = [v] ∧ okV v ∧ ∀ d, H1 d = none → Q (.ref C) (some d) (upd H1 d (.xd [(fld, v)]))
theorem pmk_sup {a : Expr} {ta : TA} {p pos : Pos} {k : Nat} (T : SupTxt X.prog X.K st qual fld msg C fI cc cda) (Tx : SupText st fld msg) (M : MsgOk X.prog X.w msg fld ok) (hok : ∀ v u, RelV v u → okV v → ok u) (gC : X.mg cn = some (.ref C)) (hr : Room k X.A) (ha : PA X [a] ta)
    (hg : Gl X cn := by rfl) (hdb : (cn == ("__debug__" : Str)) = false := by decide)
    (he : starEach (a :: []) X.env = (false, eval a X.env) :: starEach [] X.env := by rfl) (hpl : (backTo pos (starEach [] X.env)).any (·.1) = false := by rfl) :
    PMk X (.Call (.Name cn p) [a] [] pos) (tMkSup C fld okV ta) := by
  intro pins s σ H Q I h
  refine wpAny_Call_Name_kw (ld_glob I hg gC ?_ hdb)
  refine PySem.W.callWith_K (h₀ := X.base) I.ok.mod.kin T.kC (thn (ha.run pos pins s σ H _ I h) fun us s1 hh => ?_) he hpl
  obtain ⟨vs, H1, I1, r1, v, ev, okv, q1⟩ := hh
  subst ev
  refine ⟨I1.kIn, ?_⟩
  cases r1 with
  | cons rv rn =>
    rename_i v' us'
    cases rn
    show wpAny _ _ (call (.ref C) [v']) _ _ _
    have hlim := I1.nolimit
    obtain ⟨mb, b1, b2⟩ := I1.ok.mod.blt
    have gS := I1.ok.mod.glob.keeps I1.bk
    have bS := b1.keeps I1.bk
    obtain ⟨hp, g, dr, tk, os⟩ := s1
    refine wpAny_call (sup_made T Tx M I1.kIn gS bS b2 hlim (by have := hr.dp; omega) (hok v v' rv okv) fun h' tk' e d Md => ?_)
    show MkP X pins σ Q (.ref e) ⟨h', g, dr, tk', os⟩
    obtain ⟨oe, fv, hoe, hc, hd, hdat, h1⟩ := Md.obj
    have hns := Md.ns
    obtain ⟨G', g1, g2⟩ := restrict h' fun b => decide (b ≠ e)
    have gk : ∀ b, b ≠ e → G'.get? b = h'.get? b := fun b hb => g1 b (decide_eq_true hb)
    have ge : G'.get? e = none := g2 e (by simp)
    have old : ∀ b o, hp.get? b = some o → G'.get? b = some o := fun b o q => (gk b (Nat.ne_of_lt (Nat.lt_of_lt_of_le (Heap.lt_size q) Md.new))).trans (Md.keep b o q)
    have ob : ObjOk X.prog X.w (upd H1 d (.xd [(fld, v)])) G' d (.xd [(fld, v)]) := ⟨_, hns.at (fun o q => (gk d Md.dne).trans q), fun f => relO_one rv f⟩
    have J : Inv X pins σ (upd H1 d (.xd [(fld, v)])) ⟨G', g, dr, tk', os⟩ := I1.laid (t' := tk') old Md.dbig ob
    refine ⟨e, oe, fv, ⟨G', g, dr, tk', os⟩, _, .ref C, some d, rfl, J, fun b o q => ?_, ge, hoe, ⟨hc, hd⟩, hdat, h1, ?_, rfl, I1.bare, raises_own T.exC T.tyC, q1 d (I1.hok.fresh Md.dbig)⟩
    · by_cases hb : b = e
      · have q' : G'.get? b = some o := q
        rw [hb, ge] at q'; cases q'
      · exact (gk b hb).symm.trans q
    · rw [upd_ne (Ne.symm Md.dne)]
      exact I1.hok.fresh Md.new
/-- raise C(e) -/
def tRaiseSup (C : Addr) (fld : Str) (okV : V → Prop) (W : WX) (ta : TA) : TS := fun _ σ H => tMkSup C fld okV ta σ H fun cls d H' => W cls d σ H'
theorem ps_raiseSup {a : Expr} {ta : TA} {W : WX} {p pos pos2 : Pos} {k : Nat} (hc : X.calm = true) (T : SupTxt X.prog X.K st qual fld msg C fI cc cda) (Tx : SupText st fld msg) (M : MsgOk X.prog X.w msg fld ok) (hok : ∀ v u, RelV v u → okV v → ok u) (gC : X.mg cn = some (.ref C)) (hr : Room k X.A)
    (tk : Takes X W) (ha : PA X [a] ta) (hg : Gl X cn := by rfl) (hdb : (cn == ("__debug__" : Str)) = false := by decide)
    (he : starEach (a :: []) X.env = (false, eval a X.env) :: starEach [] X.env := by rfl) (hpl : (backTo pos (starEach [] X.env)).any (·.1) = false := by rfl) :
    PS X (.Raise (some (.Call (.Name cn p) [a] [] pos)) none pos2) (tRaiseSup C fld okV W ta) := ps_raise hc tk (pmk_sup T Tx M hok gC hr ha hg hdb he hpl)
/-- e.fld, e the exception that the suite holds (at a; its class cls, its dict d) -/
def tByFld (C : Addr) (fld : Str) (a : Addr) (cls : Value) (d : Option Addr) (te : TE) : TE := fun σ H Q => te σ H fun x H1 => x = .ref a ∧ cls = .ref C ∧ ∃ (dd : Addr) (v : V), d = some dd ∧ H1 dd = some (.xd [(fld, v)]) ∧ Q v H1
theorem pe_byFld {a : Addr} {oe : Obj} {cls : Value} {d : Option Addr} {pn : List (Addr × Obj)} {e : Expr} {te : TE} {pos : Pos} (T : SupTxt X.prog X.K st qual fld msg C fI cc cda) (hz : Zc cls d oe) (hf : ∃ vs, oe.data = .fields vs) (he : PE (X.suite a ((a, oe) :: pn)) e te)
    (hb : attributeBase e fld X.env (eval e X.env) = eval e X.env := by rfl) (hnd : (fld == ("__dict__" : Str)) = false := by decide) (hnc : (fld == ("__class__" : Str)) = false := by decide) :
    PE (X.suite a ((a, oe) :: pn)) (.Attribute e fld pos) (tByFld C fld a cls d te) := by
  refine ⟨fun pins s σ H Q I h => ?_⟩
  refine attr_of hb (thn (he.run pins s σ H _ I h) fun u s1 hh => ?_)
  obtain ⟨x, H1, I1, rx, ex, ec, dd, v, ed, ea, q⟩ := hh
  subst ex
  obtain rfl : u = Value.ref a := rx
  subst ec
  subst ed
  obtain ⟨ha, _⟩ := I1.pin (a, oe) (List.mem_append_left _ List.mem_cons_self)
  obtain ⟨vs, hd⟩ := hf
  have hx : ObjOk X.prog X.w H1 s1.heap dd (.xd [(fld, v)]) := I1.hok dd _ ea
  obtain ⟨mA, hns, hr⟩ := hx
  obtain ⟨od, ho, hl⟩ := lookIn_ns hns
  have l : List.lookup fld [(fld, v)] = some v := by simp [List.lookup]
  obtain ⟨u, hu, ru⟩ := RelO.some_of (v := v) (o := mA fld) (by rw [← l]; exact hr fld)
  have J : PySem.W.InstAt s1.heap a oe C (some od) := ⟨ha, hz.1, by unfold PySem.W.notCls; rw [hd] <;> rfl, by rw [hz.2]; exact ho⟩
  exact HandSPX.exc_get I1.kIn J T.ga T.gg T.exC (PySem.W.findObj_own T.hdC T.no rfl (by rw [hl, hu])) (handed_of ru) ⟨v, H1, I1.tok _, ru, q⟩
end
end Lot
namespace Lot
open PySem PySem.Spec PyProof.Rows
/-- an f-string: a written text, the field, a written text -/
theorem msg_mid {prog : Program} {w : World} {fld a b : Str} {k1 k2 : _} {p1 p2 p3 p4 p5 : Pos} (hnd : (fld == ("__debug__" : Str)) = false) (ha : a.length ≤ 1000) (hb : b.length ≤ 1000) :
    MsgOk prog w (.JoinedStr [.Constant (.str a) k1 p1, .FormattedValue (.Name fld p2) (-1) none p3, .Constant (.str b) k2 p4] p5) fld okInt := by
  intro A E Q env v s m kf kl hn hm hv q
  obtain ⟨i, t, rfl, hz⟩ := hv
  have len : ∀ x y : Str, (x ++ y).length = x.length + y.length := str_app_len
  have e0 : Str.empty.length = 0 := rfl
  have hi := PyProof.Rows.int_text_len_1921 hz
  have hs : 10000 ≤ sizeLine := by decide
  refine wpAny_JoinedStr ?_
  show Joins _ _ _ [eval (.Constant (.str a) k1 p1) env, eval (.FormattedValue (.Name fld p2) (-1) none p3) env, eval (.Constant (.str b) k2 p4) env] _ _ _
  refine Calls.Constant_str ⟨a, _, rfl, by rw [len]; omega, ?_⟩
  refine wpAny_FormattedValue_plain (ESX.ldL hn hm ?_ kf kl hnd)
  refine wpAny_formatField_int hz ⟨_, _, rfl, by rw [len, len]; have : (toString i : Str).length ≤ 1921 := hi; omega, ?_⟩
  refine Calls.Constant_str ⟨b, _, rfl, by rw [len, len, len]; have : (toString i : Str).length ≤ 1921 := hi; omega, ?_⟩
  exact ⟨by rw [len, len, len]; have : (toString i : Str).length ≤ 1921 := hi; omega, q _ _ _⟩
end Lot
namespace Lot
open PySem PySem.Spec PyProof.Rows L2
def okI (v : V) : Prop := ∃ i : Int, v = .int i ∧ i.natAbs.log2 < 1920
theorem okI_rel (v : V) (u : Value) (r : RelV v u) (h : okI v) : okInt u := by
  obtain ⟨i, rfl, hz⟩ := h
  obtain ⟨t, rfl⟩ := r
  exact ⟨i, t, rfl, hz⟩
theorem okI_nat {n : Nat} (h : n < 2 ^ 100) : okI (.int (n : Int)) := ⟨n, rfl, by
  have : ((n : Int)).natAbs = n := Int.natAbs_natCast n
  rw [this]
  exact Nat.lt_trans (PySem.Flt.log2_lt_of (by decide) h) (by decide)⟩
/-- a def of the text that may raise, ready to be called -/
structure DefX (P : Program) (w : World) (K : PySem.W.Frag) (mg : Str → Option Value) (base : Heap) (k : Nat) (x : Str) (ps : List Str) (sp : Sp) (f : Addr) (fd : FuncData) : Prop where
  ok : FnOk P w K mg base (L2.CX P w) k f fd ps sp
  g : mg x = some (.ref f)
  kp : PySem.W.keepIn K (.ref f) = true
  b : Binds K fd ps []
end Lot
namespace Lot
open PySem PySem.Spec PyProof.Rows
/-- an error of the class at S is what «except S» names -/
theorem exm_self {K : PySem.W.Frag} {S : Addr} (h1 : PySem.W.subIn K (.ref S) (.type "BaseException") = some true) (h2 : PySem.W.isClsIn K S = true) (h3 : PySem.W.typeIn K (.ref S) = some (.type "type")) (h4 : PySem.W.subIn K (.ref S) (.ref S) = some true) :
    PySem.W.exmOne K (.ref S) (.ref S) = some true := by
  have e1 : (PySem.W.subIn K (.ref S) (.type "BaseException") == some true) = true := by rw [h1] <;> rfl
  have e2 : ((PySem.W.clsIn K S).isSome && PySem.W.typeIn K (.ref S) == some (.type "type")) = true := by
    have h2' : (PySem.W.clsIn K S).isSome = true := h2
    rw [h2', h3] <;> rfl
  show (if (PySem.W.subIn K (.ref S) (.type "BaseException") == some true) = true then (if ((PySem.W.clsIn K S).isSome && PySem.W.typeIn K (.ref S) == some (.type "type")) = true then PySem.W.subIn K (.ref S) (.ref S) else none) else none) = some true
  rw [if_pos e1, if_pos e2]
  exact h4
end Lot

namespace Lot
open PySem PySem.Spec PyProof.Rows L2
def blank : Str := Str.ofString " "
theorem spl_le (S : List Nat) : ∀ (l : List Nat) (k : Nat) (acc : List Nat), (∀ p ∈ TL.spl S k acc l, p.length ≤ acc.length + l.length) ∧ (TL.spl S k acc l).length ≤ l.length + 1
  | [], k, acc => by
    rw [TL.spl_nil]
    refine ⟨fun p hp => ?_, Nat.le_refl _⟩
    rw [List.mem_singleton.mp hp]
    exact Nat.le_add_right _ _
  | c :: r, 0, acc => by
    cases h : TL.pre S (c :: r) with
    | true =>
      rw [TL.spl_hit h]
      have ih := spl_le S r (S.length - 1) []
      refine ⟨fun p hp => ?_, ?_⟩
      · rcases List.mem_cons.mp hp with rfl | hp
        · exact Nat.le_add_right _ _
        · have := ih.1 p hp
          simp only [List.length_nil, List.length_cons] at *
          omega
      · rw [List.length_cons, List.length_cons]
        exact Nat.succ_le_succ ih.2
    | false =>
      rw [TL.spl_miss h]
      have ih := spl_le S r 0 (acc ++ [c])
      refine ⟨fun p hp => ?_, ?_⟩
      · have := ih.1 p hp
        rw [List.length_append, List.length_singleton] at this
        rw [List.length_cons]
        omega
      · rw [List.length_cons]
        exact Nat.le_succ_of_le ih.2
  | c :: r, k + 1, acc => by
    show (∀ p ∈ TL.spl S k acc r, _) ∧ (TL.spl S k acc r).length ≤ _
    have ih := spl_le S r k acc
    refine ⟨fun p hp => ?_, ?_⟩
    · have := ih.1 p hp
      rw [List.length_cons]
      omega
    · rw [List.length_cons]
      exact Nat.le_succ_of_le ih.2
theorem spl_mem (S : List Nat) : ∀ (l : List Nat) (k : Nat) (acc : List Nat), ∀ p ∈ TL.spl S k acc l, ∀ c ∈ p, c ∈ acc ∨ c ∈ l
  | [], k, acc => by
    rw [TL.spl_nil]
    intro p hp c hc
    rw [List.mem_singleton.mp hp] at hc
    exact .inl hc
  | x :: r, 0, acc => by
    cases h : TL.pre S (x :: r) with
    | true =>
      rw [TL.spl_hit h]
      intro p hp c hc
      rcases List.mem_cons.mp hp with rfl | hp
      · exact .inl hc
      · rcases spl_mem S r (S.length - 1) [] p hp c hc with h | h
        · cases h
        · exact .inr (List.mem_cons_of_mem _ h)
    | false =>
      rw [TL.spl_miss h]
      intro p hp c hc
      rcases spl_mem S r 0 (acc ++ [x]) p hp c hc with h | h
      · rcases List.mem_append.mp h with h | h
        · exact .inl h
        · rw [List.mem_singleton.mp h]; exact .inr List.mem_cons_self
      · exact .inr (List.mem_cons_of_mem _ h)
  | x :: r, k + 1, acc => by
    intro p hp c hc
    have hp' : p ∈ TL.spl S k acc r := hp
    exact (spl_mem S r k acc p hp' c hc).imp_right (List.mem_cons_of_mem _)
/-- .. and they have no other signs -/
theorem split_mem (x : Str) : ∀ z ∈ Txt.split x blank, ∀ c ∈ z.cps.toList, c ∈ x.cps.toList := by
  have e := TL.split_spl x blank (by decide +kernel) (TL.kind_ok (by decide +kernel))
  intro z hz c hc
  have h := spl_mem (TL.tl blank) (TL.tl x) 0 [] (TL.tl z) (by rw [← e]; exact List.mem_map_of_mem hz) c hc
  rcases h with h | h
  · cases h
  · exact h
/-- the words of a text: none is longer than it -/
theorem split_le (x : Str) : (∀ z ∈ Txt.split x blank, z.length ≤ x.length) ∧ (Txt.split x blank).length ≤ x.length + 1 := by
  have e := TL.split_spl x blank (by decide +kernel) (TL.kind_ok (by decide +kernel))
  have h := spl_le (TL.tl blank) (TL.tl x) 0 []
  rw [← e] at h
  rw [List.length_map] at h
  rw [TL.len_tl x]
  refine ⟨fun z hz => ?_, h.2⟩
  have := h.1 (TL.tl z) (List.mem_map_of_mem hz)
  rw [TL.len_tl z]
  simpa using this
/-- the first word that is not due, or how many there are where words lack -/
def firstBad (due wide : Nat) : Nat → List Str → Option Nat
  | i, [] => if i < due then some i else none
  | i, z :: r => if (decide (due ≤ i) || !isDue z i wide) = true then some i else firstBad due wide (i + 1) r
def dueMany (bd : Bd) : Nat := bd.high * (bd.wide + 1) - 1
def badAt (bd : Bd) (text : Str) : Option Nat := firstBad (dueMany bd) bd.wide 0 (Txt.split text blank)
def thingsIn (ws : List Str) : List (Str × Nat) := (ws.filter fun z => !decide (z = slash)).map thingOf
/-- words that were due up to place i: the first that isn't stands behind them -/
theorem firstBad_app {due wide : Nat} : ∀ {ws : List Str} {i k : Nat}, (∀ j z, j < i → ws[j]? = some z → (decide (due ≤ k + j) || !isDue z (k + j) wide) = false) → i ≤ ws.length → firstBad due wide k ws = firstBad due wide (k + i) (ws.drop i)
  | ws, 0, k, _, _ => by rw [List.drop_zero, Nat.add_zero]
  | [], i + 1, k, _, h => by simp at h
  | z :: r, i + 1, k, h, hl => by
    have h0 := h 0 z (Nat.succ_pos i) rfl
    rw [Nat.add_zero] at h0
    show (if (decide (due ≤ k) || !isDue z k wide) = true then some k else firstBad due wide (k + 1) r) = _
    rw [h0, if_neg Bool.false_ne_true]
    rw [firstBad_app (ws := r) (i := i) (k := k + 1) (fun j y hj hy => by
      have := h (j + 1) y (Nat.succ_lt_succ hj) (by rw [List.getElem?_cons_succ]; exact hy)
      rw [show k + 1 + j = k + (j + 1) by omega]
      exact this) (by rw [List.length_cons] at hl; omega)]
    rw [List.drop_succ_cons, show k + 1 + i = k + (i + 1) by omega]
theorem firstBad_here {due wide : Nat} {ws : List Str} {i : Nat} {z : Str} (h : ∀ j z, j < i → ws[j]? = some z → (decide (due ≤ j) || !isDue z j wide) = false) (hz : ws[i]? = some z) (hb : (decide (due ≤ i) || !isDue z i wide) = true) : firstBad due wide 0 ws = some i := by
  have hi := (List.getElem?_eq_some_iff.mp hz).1
  rw [firstBad_app (i := i) (k := 0) (fun j y hj hy => by rw [Nat.zero_add]; exact h j y hj hy) (Nat.le_of_lt hi), Nat.zero_add]
  have ed : ws.drop i = z :: ws.drop (i + 1) := by
    rw [List.drop_eq_getElem_cons hi]
    have := (List.getElem?_eq_some_iff.mp hz).2
    rw [this]
  rw [ed]
  show (if (decide (due ≤ i) || !isDue z i wide) = true then some i else _) = _
  rw [if_pos hb]
theorem firstBad_end {due wide : Nat} {ws : List Str} (h : ∀ j z, ws[j]? = some z → (decide (due ≤ j) || !isDue z j wide) = false) : firstBad due wide 0 ws = if ws.length < due then some ws.length else none := by
  rw [firstBad_app (i := ws.length) (k := 0) (fun j y hj hy => by rw [Nat.zero_add]; exact h j y hy) (Nat.le_refl _), List.drop_length, Nat.zero_add]
  rfl
/-- nothing is wrong: every word is due, they are as many as are due -/
theorem firstBad_none {due wide : Nat} : ∀ {ws : List Str} {k : Nat}, firstBad due wide k ws = none → k ≤ due → (∀ j z, ws[j]? = some z → isDue z (k + j) wide = true) ∧ k + ws.length = due
  | [], k, h, hk => by
    unfold firstBad at h
    by_cases c : k < due
    · rw [if_pos c] at h; cases h
    · exact ⟨fun j z e => by simp at e, by show k + 0 = due; omega⟩
  | z :: r, k, h, hk => by
    unfold firstBad at h
    by_cases c : (decide (due ≤ k) || !isDue z k wide) = true
    · rw [if_pos c] at h; cases h
    · rw [if_neg c] at h
      have c' : (decide (due ≤ k) || !isDue z k wide) = false := by simpa using c
      rw [Bool.or_eq_false_iff] at c'
      have hk' : ¬ due ≤ k := of_decide_eq_false c'.1
      have ih := firstBad_none h (by omega)
      refine ⟨fun j y e => ?_, by rw [List.length_cons]; omega⟩
      cases j with
      | zero =>
        have : z = y := Option.some.inj e
        subst this
        simpa using c'.2
      | succ j =>
        rw [List.getElem?_cons_succ] at e
        have := ih.1 j y e
        rw [show k + (j + 1) = k + 1 + j by omega]
        exact this
end Lot

namespace Lot
open PySem PySem.Spec PyProof.Rows L2
/-! ### list(text) -/
def signs (z : Str) : List V := z.cps.toList.map fun c => .str ⟨#[c]⟩
theorem call_list_text {X : Cx} (hc : X.calm = true) : CallR X (.type "list") (fun xs H Q => ∃ z : Str, xs = [.str z] ∧ z.length ≤ sizeLine ∧ ∀ p, H p = none → Q (.ref p) (upd H p (.lst (signs z)))) := by
  intro pins s σ H xs us Q I r h
  obtain ⟨z, rfl, hz, q⟩ := h
  obtain ⟨u, rfl, rx⟩ := vals1 r
  obtain ⟨t, rfl⟩ := rx
  refine PySem.call_list_str (I.ok.hd hc) z t (fun h' tk acc' c' hkeep hS hacc => ?_) hz
  have hl : (signs z).length = z.cps.size := by unfold signs; rw [List.length_map, Array.length_toList]
  refine ⟨.ref s.heap.objs.size, upd H s.heap.objs.size (.lst (signs z)), I.laid hkeep (Nat.le_refl _) (show ObjOk X.prog X.w _ _ _ (.lst (signs z)) from ⟨?_, acc'.toList, c', ?_, ?_⟩), rfl, q _ (I.hok.fresh (Nat.le_refl _))⟩
  · rw [hl]; exact hz
  · have el : acc'.toList.length = acc'.size := by simp
    refine vals_of_at (by rw [el, hacc.1, hl]) fun j x w h1 h2 => ?_
    obtain ⟨c, tk2, hc1, rfl⟩ := hacc.2 j w (by rw [← Array.getElem?_toList]; exact h2)
    unfold signs at h1
    rw [List.getElem?_map, Array.getElem?_toList, hc1] at h1
    cases h1
    exact ⟨_, rfl⟩
  · rw [Array.toArray_toList]; exact hS
end Lot
namespace Lot
open PySem PySem.Spec PyProof.Rows L2
/-! ### data: lists of signs -/
def dSigns (l : List Nat) : PyData := .list (l.map fun c => .str ⟨#[c]⟩)
theorem signs_data {K : PySem.W.Frag} {H : Hp} : ∀ l : List Nat, DpAll K H (l.map fun c => V.str ⟨#[c]⟩) (l.map fun c => PyData.str ⟨#[c]⟩)
  | [] => .nil
  | c :: l => .cons (.str _) (signs_data l)
theorem signs_can : ∀ l : List Nat, (∀ c ∈ l, c < 128) → PyData.canLayAll0 (l.map fun c => PyData.str ⟨#[c]⟩) = true
  | [], _ => rfl
  | c :: l, h => by
    show (PyData.canLay0 (.str ⟨#[c]⟩) && PyData.canLayAll0 (l.map fun c => PyData.str ⟨#[c]⟩)) = true
    rw [signs_can l fun x hx => h x (List.mem_cons_of_mem _ hx), Bool.and_true]
    have hc := h c List.mem_cons_self
    have key : ∀ n : Nat, n < 128 → PyData.canLay0 (.str ⟨#[n]⟩) = true := by decide +kernel
    exact key c hc
theorem signs_depth : ∀ l : List Nat, PyData.depthAll (l.map fun c => PyData.str ⟨#[c]⟩) = 0
  | [] => rfl
  | c :: l => by
    show max 0 (PyData.depthAll (l.map fun c => PyData.str ⟨#[c]⟩)) = 0
    rw [signs_depth l]
    rfl
theorem signs_shaped {l : List Nat} (h : ∀ c ∈ l, c < 128) : SeqAt.shaped (dSigns l) = true := by
  unfold SeqAt.shaped
  rw [Bool.and_eq_true]
  refine ⟨signs_can l h, decide_eq_true ?_⟩
  show PyData.depthAll _ + 1 ≤ 64
  rw [signs_depth]
  decide
theorem signs_nil (l : List Nat) : PyData.eqv (dSigns l) (.list []) = l.isEmpty := by
  cases l with
  | nil => rfl
  | cons c r => rfl
/-! ### the law's own reading, cell by cell -/
theorem cut_head (z : Str) : (cutS z none (some 1) = minus) ↔ Txt.startswith z minus = true := by
  rw [starts_iff]
  unfold cutS
  have e1 : HT.sIx z.length z.length (some 1) = min 1 z.length := HT.sIx_nat z.length z.length 1
  rw [e1, HT.sIx_none]
  have hl : z.length = z.cps.toList.length := by simp [Str.length]
  rw [hl, List.drop_zero, minus_is]
  cases z.cps.toList with
  | nil => exact ⟨(fun h => by cases h), (fun h => by cases h)⟩
  | cons x r =>
    rw [show min 1 (x :: r).length = 1 by rw [List.length_cons]; omega]
    show ((⟨#[x]⟩ : Str) = ⟨#[45]⟩) ↔ some x = some 45
    constructor
    · intro h
      have := Str.mk.inj h
      simpa using this
    · intro h
      rw [Option.some.inj h]
theorem cut_zero (z : Str) : cutS z (some 0) none = z := by
  unfold cutS
  have e1 : HT.sIx z.length 0 (some 0) = min 0 z.length := HT.sIx_nat z.length 0 0
  rw [e1, HT.sIx_none, Nat.zero_min, List.drop_zero, Nat.sub_zero]
  have hl : z.length = z.cps.toList.length := by simp [Str.length]
  rw [hl, List.take_length]
/-- the place of cell c's word -/
def pos (w c : Nat) : Nat := (c / w) * (w + 1) + c % w
def edgeN (w c : Nat) : Bool := decide (0 < c) && decide (c % w = 0)
/-- where the reading stands ahead of cell c -/
def ahead (w c : Nat) : Nat := pos w c - (if edgeN w c then 1 else 0)
theorem pos_mod {w c : Nat} (hw : 0 < w) : pos w c % (w + 1) = c % w := by
  unfold pos
  rw [Nat.mul_comm, Nat.mul_add_mod]
  exact Nat.mod_eq_of_lt (by have := Nat.mod_lt c hw; omega)
theorem edge_pos {w c : Nat} (hw : 0 < w) (h : edgeN w c = true) : 1 ≤ pos w c ∧ (pos w c - 1) % (w + 1) = w ∧ c % w = 0 := by
  unfold edgeN at h
  rw [Bool.and_eq_true] at h
  have h0 := of_decide_eq_true h.1
  have h1 := of_decide_eq_true h.2
  have hq : 1 ≤ c / w := by
    have := Nat.div_add_mod c w
    rw [h1, Nat.add_zero] at this
    cases hz : c / w with
    | zero => rw [hz, Nat.mul_zero] at this; omega
    | succ n => omega
  obtain ⟨n, hn⟩ : ∃ n, c / w = n + 1 := ⟨c / w - 1, by omega⟩
  have e : pos w c = n * (w + 1) + w + 1 := by
    unfold pos
    rw [h1, hn, Nat.succ_mul]
    omega
  refine ⟨by omega, ?_, h1⟩
  rw [e, show n * (w + 1) + w + 1 - 1 = (w + 1) * n + w by rw [Nat.mul_comm]; omega, Nat.mul_add_mod]
  exact Nat.mod_eq_of_lt (Nat.lt_succ_self w)
theorem ahead_zero (w : Nat) : ahead w 0 = 0 := by
  unfold ahead pos
  simp
theorem ahead_succ {w c : Nat} (hw : 0 < w) : ahead w (c + 1) = pos w c + 1 := by
  have hm := Nat.mod_lt c hw
  have hd := Nat.div_add_mod c w
  unfold ahead
  by_cases h : c % w + 1 = w
  · have e1 : c + 1 = w * (c / w + 1) := by
      rw [Nat.mul_succ]
      omega
    have em : (c + 1) % w = 0 := by rw [e1]; exact Nat.mul_mod_right _ _
    have ed : (c + 1) / w = c / w + 1 := by rw [e1]; exact Nat.mul_div_cancel_left _ hw
    have ee : edgeN w (c + 1) = true := by
      unfold edgeN
      rw [decide_eq_true (Nat.succ_pos c), decide_eq_true em]
      rfl
    rw [ee, if_pos rfl]
    unfold pos
    rw [em, ed, Nat.succ_mul]
    omega
  · have hm2 : c % w + 1 < w := by omega
    have e1 : c + 1 = w * (c / w) + (c % w + 1) := by omega
    have em : (c + 1) % w = c % w + 1 := by
      rw [e1, Nat.mul_add_mod]
      exact Nat.mod_eq_of_lt hm2
    have ed : (c + 1) / w = c / w := by
      rw [e1, Nat.mul_add_div hw, Nat.div_eq_of_lt hm2, Nat.add_zero]
    have ee : edgeN w (c + 1) = false := by
      unfold edgeN
      rw [decide_eq_false (show ¬ (c + 1) % w = 0 by rw [em]; omega), Bool.and_false]
    rw [ee, if_neg (by decide)]
    unfold pos
    rw [em, ed]
    omega
theorem ahead_end {w h : Nat} (hw : 0 < w) (hh : 0 < h) : ahead w (h * w) = h * (w + 1) - 1 := by
  have em : h * w % w = 0 := Nat.mul_mod_left _ _
  have ee : edgeN w (h * w) = true := by
    unfold edgeN
    rw [decide_eq_true (Nat.mul_pos hh hw), decide_eq_true em]
    rfl
  unfold ahead
  rw [ee, if_pos rfl]
  unfold pos
  rw [em, Nat.mul_div_cancel _ hw, Nat.add_zero]
theorem pos_lt {w h c : Nat} (hw : 0 < w) (hc : c < h * w) : pos w c < h * (w + 1) - 1 := by
  have hm := Nat.mod_lt c hw
  have hq : c / w < h := (Nat.div_lt_iff_lt_mul hw).mpr hc
  have h2 : (c / w + 1) * (w + 1) ≤ h * (w + 1) := Nat.mul_le_mul_right _ hq
  rw [Nat.succ_mul] at h2
  unfold pos
  omega
/-- a board's edges are those of its width -/
theorem Bd.edge_is {bd : Bd} (ok : bd.Ok 36) {c : Nat} (hc : c < bd.cells) : bd.edge c = edgeN bd.wide c := by
  have plain : ∀ n, bd.wide = n → bd.cells = n → bd.edge c = false → bd.edge c = edgeN bd.wide c := fun n e1 e2 e3 => by
    rw [e3, e1]
    unfold edgeN
    by_cases h : 0 < c
    · rw [Nat.mod_eq_of_lt (by omega), decide_eq_false (show ¬ c = 0 by omega), Bool.and_false]
    · rw [decide_eq_false h, Bool.false_and]
  cases bd with
  | row n => exact plain n rfl (Nat.one_mul n) rfl
  | ring n => exact plain n rfl (Nat.one_mul n) rfl
  | floor h w => rfl
/-- all words ahead of place n are due -/
def Good (bd : Bd) (ws : List Str) (n : Nat) : Prop := n ≤ ws.length ∧ n ≤ dueMany bd ∧ ∀ j z, j < n → ws[j]? = some z → (decide (dueMany bd ≤ j) || !isDue z j bd.wide) = false
theorem Good.next {bd : Bd} {ws : List Str} {n : Nat} {z : Str} (g : Good bd ws n) (hn : n < dueMany bd) (hz : ws[n]? = some z) (hd : isDue z n bd.wide = true) : Good bd ws (n + 1) := by
  have hl := (List.getElem?_eq_some_iff.mp hz).1
  refine ⟨hl, hn, fun j y hj hy => ?_⟩
  by_cases c : j = n
  · subst c
    rw [hz] at hy
    rw [← Option.some.inj hy, hd, decide_eq_false (by omega)]
    rfl
  · exact g.2.2 j y (by omega) hy
theorem Good.bad {bd : Bd} {ws : List Str} {n : Nat} {z : Str} (g : Good bd ws n) (hz : ws[n]? = some z) (hb : dueMany bd ≤ n ∨ isDue z n bd.wide = false) : firstBad (dueMany bd) bd.wide 0 ws = some n := by
  refine firstBad_here g.2.2 hz ?_
  rcases hb with hb | hb
  · rw [decide_eq_true hb, Bool.true_or]
  · rw [hb]
    simp
theorem Good.lacks {bd : Bd} {ws : List Str} (g : Good bd ws ws.length) (h : ws.length < dueMany bd) : firstBad (dueMany bd) bd.wide 0 ws = some ws.length := by
  rw [firstBad_end fun j z hz => g.2.2 j z (List.getElem?_eq_some_iff.mp hz).1 hz, if_pos h]
theorem Good.whole {bd : Bd} {ws : List Str} (g : Good bd ws ws.length) (h : ws.length = dueMany bd) : firstBad (dueMany bd) bd.wide 0 ws = none := by
  rw [firstBad_end fun j z hz => g.2.2 j z (List.getElem?_eq_some_iff.mp hz).1 hz, if_neg (by omega)]
theorem things_slash {ws : List Str} {n : Nat} (hz : ws[n]? = some slash) : thingsIn (ws.take (n + 1)) = thingsIn (ws.take n) := by
  unfold thingsIn
  rw [List.take_add_one, hz, List.filter_append, show (some slash).toList = [slash] from rfl, List.filter_cons_of_neg (by simp), List.filter_nil, List.append_nil]
theorem things_more {ws : List Str} {n : Nat} {z : Str} (hz : ws[n]? = some z) (h : z ≠ slash) : thingsIn (ws.take (n + 1)) = thingsIn (ws.take n) ++ [thingOf z] := by
  unfold thingsIn
  rw [List.take_add_one, hz, List.filter_append, show (some z).toList = [z] from rfl, List.filter_cons_of_pos (by rw [decide_eq_false h]; rfl), List.filter_nil, List.map_append]
  rfl
theorem name_slash {z : Str} (h : isName (thingOf z).1 = true) : z ≠ slash := fun e => by
  rw [e] at h
  have : isName (thingOf slash).1 = false := by decide +kernel
  rw [this] at h
  cases h
end Lot
namespace Lot
open PySem PySem.Spec PyProof.Rows L2
def AscS (z : Str) : Prop := ∀ c ∈ z.cps.toList, c < 128
theorem AscS.app {a b : Str} (h : AscS a) (g : AscS b) : AscS (a ++ b) := fun c hc => by
  have : c ∈ (a.cps ++ b.cps).toList := hc
  rw [Array.toList_append, List.mem_append] at this
  exact this.elim (h c) (g c)
theorem AscS.cut {z : Str} (h : AscS z) (lo hi : Option Int) : AscS (cutS z lo hi) := fun c hc => by
  unfold cutS at hc
  exact h c (List.mem_of_mem_drop (List.mem_of_mem_take hc))
theorem AscS.one {c : Nat} (h : c < 128) : AscS ⟨#[c]⟩ := fun d hd => by
  have : d = c := by simpa using hd
  omega
theorem AscS.join {s : Str} (hs : AscS s) : ∀ {ys : List Str}, (∀ z ∈ ys, AscS z) → AscS (Str.join s ys)
  | [], _ => fun c hc => by cases hc
  | [x], h => h x List.mem_cons_self
  | x :: y :: r, h => by
    have ih := AscS.join hs (ys := y :: r) fun z hz => h z (List.mem_cons_of_mem _ hz)
    exact ((h x List.mem_cons_self).app hs).app ih
theorem cut_len (z : Str) (lo hi : Option Int) : (cutS z lo hi).length ≤ z.length := cutS_length z lo hi
/-- slices of lists of texts -/
def cutL (l : List Str) (lo hi : Option Int) : List Str := (l.drop (HT.sIx l.length 0 lo)).take (HT.sIx l.length l.length hi - HT.sIx l.length 0 lo)
theorem cutV_map (l : List Str) (lo hi : Option Int) : cutV (l.map V.str) lo hi = (cutL l lo hi).map V.str := by
  unfold cutV cutL
  rw [List.length_map, List.map_take, List.map_drop]
theorem cutL_mem {l : List Str} {lo hi : Option Int} {z : Str} (h : z ∈ cutL l lo hi) : z ∈ l := List.mem_of_mem_drop (List.mem_of_mem_take h)
theorem cutL_len (l : List Str) (lo hi : Option Int) : (cutL l lo hi).length ≤ l.length := by
  unfold cutL
  rw [List.length_take, List.length_drop]
  omega
/-- what is read of words that are all due -/
theorem things_ok {bd : Bd} {text : Str} (h : badAt bd text = none) : ∀ th ∈ thingsIn (Txt.split text blank), ThOk th := by
  intro th hth
  unfold thingsIn at hth
  obtain ⟨z, hz, rfl⟩ := List.mem_map.mp hth
  obtain ⟨hz1, hz2⟩ := List.mem_filter.mp hz
  obtain ⟨j, hj⟩ := List.getElem?_of_mem hz1
  have hd := (firstBad_none h (Nat.zero_le _)).1 j z hj
  have hs : z ≠ slash := fun e => by rw [e] at hz2; simp at hz2
  refine ⟨isName_iff.mp ?_, ?_⟩
  · unfold isDue at hd
    by_cases c : (0 + j) % (bd.wide + 1) = bd.wide
    · rw [if_pos c] at hd
      exact absurd (of_decide_eq_true hd) hs
    · rw [if_neg c] at hd
      exact hd
  · unfold thingOf
    split
    · show 1 < 2
      decide
    · show 0 < 2
      decide
theorem things_few {bd : Bd} (ok : bd.Ok 36) {text : Str} (h : badAt bd text = none) : (thingsIn (Txt.split text blank)).length ≤ 2000 := by
  have hd := (firstBad_none h (Nat.zero_le _)).2
  have hw : bd.high ≤ 36 ∧ bd.wide ≤ 36 := by
    cases bd with
    | row n => exact ⟨by show 1 ≤ 36; decide, ok.2⟩
    | ring n => exact ⟨by show 1 ≤ 36; decide, ok.2⟩
    | floor hh w =>
      obtain ⟨o1, o2, o3⟩ := ok
      exact ⟨Nat.le_trans (Nat.le_mul_of_pos_right hh o2) o3, Nat.le_trans (Nat.le_mul_of_pos_left w o1) o3⟩
  have hm : bd.high * (bd.wide + 1) ≤ 36 * 37 := Nat.mul_le_mul hw.1 (by omega)
  unfold thingsIn
  rw [List.length_map]
  refine Nat.le_trans (List.length_filter_le _ _) ?_
  unfold dueMany at hd
  omega
end Lot
namespace Lot
open PySem PySem.Spec PyProof.Rows L2
theorem firstBad_le {due wide : Nat} : ∀ {ws : List Str} {k i : Nat}, firstBad due wide k ws = some i → i ≤ k + ws.length
  | [], k, i, h => by
    unfold firstBad at h
    split at h
    · have := Option.some.inj h
      omega
    · cases h
  | z :: r, k, i, h => by
    unfold firstBad at h
    split at h
    · have := Option.some.inj h
      omega
    · have := firstBad_le h
      rw [List.length_cons]
      omega
theorem bad_le {bd : Bd} {text : Str} {i : Nat} (h : badAt bd text = some i) (hl : text.length ≤ 10000) : i ≤ 10001 := by
  have h1 := firstBad_le h
  have h2 := (Lot.split_le text).2
  omega
/-- what repr asks of a small int -/
theorem dInt_ok {i : Nat} (h : i ≤ 10001) : (PyData.int (i : Int)).showable = true ∧ (PyData.int (i : Int)).hasDict = false ∧ (PyData.int (i : Int)).depth ≤ 50 ∧ (PyData.int (i : Int)).shown.length ≤ sizeLine := by
  have hz : ((i : Int)).natAbs.log2 < 1920 := by
    rw [Int.natAbs_natCast]
    exact Nat.lt_trans (PySem.Flt.log2_lt_of (k := 20) (by decide) (Nat.lt_of_le_of_lt h (by decide))) (by decide)
  exact ⟨decide_eq_true hz, rfl, Nat.zero_le _, PySem.int_text_fits hz⟩
end Lot

namespace L_k58
open PySem PySem.Spec PyProof.Rows L2 Lot
def topS (i : Nat) : Stmt := PySem.Challenge.pw_stridelots_k58_signs_of_names.main.body.getD i (.Pass ⟨0, 0, 0, 0⟩)
abbrev sPot : Stmt := topS 13
abbrev sDip : Stmt := topS 14
theorem scPot : FnScope ["script", "at", "cell"] ["script", "at"] (defScope sPot) := ⟨rfl, rfl, rfl, by decide +kernel, rfl, by decide +kernel, by decide +kernel⟩
theorem scDip : FnScope ["pot", "many", "digit", "mixed"] ["pot", "many"] (defScope sDip) := ⟨rfl, rfl, rfl, by decide +kernel, rfl, by decide +kernel, by decide +kernel⟩
section
variable {P : Program} {w : World} {K : PySem.W.Frag} {mg : Str → Option Value} {base : Heap}
def spPot (K : PySem.W.Frag) : Sp := fun vs H Q _ => ∃ (a : Addr) (ns : List Int) (i : Nat), vs = [.ref a, .int i] ∧ SqL K H a (ns.map V.int) ∧ i ≤ 1000 ∧
  ∀ p ws, H p = none → PotV 0 ws → Q (.ref p) (upd H p (.lst ws))
theorem ok_pot {f : Addr} {fd : FuncData} {k : Nat} (F : Fun K "_law_pot" "_law_pot" sPot f fd) (ml : mg "len" = none) (mx : mg "max" = none) : FnOk P w K mg base CX0 (k + 1) f fd ["script", "at"] (spPot K) := by
  refine F.ok scPot (fun vs H Q E h => ?_) (fun cdv A outer s H vs Q E hr h => ?_)
  · obtain ⟨a, ns, i, rfl, _⟩ := h
    rfl
  · obtain ⟨a, ns, i, rfl, hS, hi, q⟩ := h
    refine ⟨_, pss_cons (ps_set (i := 2) scPot.nd rfl (.inl rfl) pe_int)
      (pss_cons (ps_if (pt_cmpR op_lt (pv 1) (pe_callB call_len_seq (by rfl) ml PySem.boot_len (pa_cons (pv 0) pa_nil)) (nomark _))
          (pss_one (ps_set (i := 2) scPot.nd rfl (.inl rfl) (pe_ix ix_list (pv 0) (pv 1) (fun _ _ => rfl)))) pss_nil)
      (pss_one (ps_ret (pe_lst (pa_cons (pe_callB (call_max2 rfl) (by rfl) mx (by decide +kernel) (pa_cons pe_int (pa_cons (pe_op op_sub (pv 2) (pe_op op_pow pe_int pe_int)) pa_nil)))
        (pa_cons (pe_op op_add (pe_op op_mod (pv 2) (pe_op op_add (pe_op op_pow pe_int pe_int) pe_int)) (pe_op op_mul pe_int (pv 1)))
        (pa_cons pe_int pa_nil))))))), ?_⟩
    have fin : ∀ cell : Int, (0 ≤ if cell - 10 ^ (18 : Int).toNat > 0 then cell - 10 ^ (18 : Int).toNat else 0) ∧ 0 ≤ cell % (10 ^ (37 : Int).toNat + 43) + 104729 * (i : Int) ∧ cell % (10 ^ (37 : Int).toNat + 43) + 104729 * (i : Int) < 10 ^ 39 := fun cell => by
      have := modlt (a := cell) (b := 10 ^ (37 : Int).toNat + 43) (by decide)
      have e : (10 : Int) ^ (37 : Int).toNat + 43 + 104729 * 1000 < 10 ^ 39 := by decide
      refine ⟨?_, by omega, by omega⟩
      split <;> omega
    refine ⟨.int i, rfl, .ref a, rfl, a, ns.map V.int, rfl, .inl hS, _, _, rfl, rfl, _, rfl, ite2 (fun e => ?_) (fun e => ?_)⟩
    · have hlt : i < ns.length := by
        have := of_decide_eq_true e
        rw [List.length_map] at this
        omega
      refine ⟨.ref a, rfl, .int i, rfl, a, _, (i : Int), .int ns[i], rfl, rfl, hS, atI_nat (by rw [List.getElem?_map, List.getElem?_eq_getElem hlt]; rfl), ?_⟩
      refine ⟨_, rfl, 10, 18, rfl, rfl, ⟨by decide, by decide, by decide⟩, ns[i], _, rfl, rfl, 0, _, rfl, ?_⟩
      refine ⟨_, rfl, 10, 37, rfl, rfl, ⟨by decide, by decide, by decide⟩, _, _, rfl, rfl, ns[i], _, rfl, rfl, (by show (0 : Int) < 10 ^ 37 + 43; decide), ?_⟩
      refine ⟨.int i, rfl, 104729, (i : Int), rfl, rfl, .inl ⟨by decide, by decide⟩, _, _, rfl, rfl, ?_⟩
      exact ⟨(by show 3 ≤ sizeLine; decide), fun p np => q p _ np ⟨_, _, _, rfl, (fin ns[i]).1, (fin ns[i]).2.1, (fin ns[i]).2.2, Int.le_refl _, Int.le_refl _⟩⟩
    · refine ⟨_, rfl, 10, 18, rfl, rfl, ⟨by decide, by decide, by decide⟩, 0, _, rfl, rfl, 0, _, rfl, ?_⟩
      refine ⟨_, rfl, 10, 37, rfl, rfl, ⟨by decide, by decide, by decide⟩, _, _, rfl, rfl, 0, _, rfl, rfl, (by show (0 : Int) < 10 ^ 37 + 43; decide), ?_⟩
      refine ⟨.int i, rfl, 104729, (i : Int), rfl, rfl, .inl ⟨by decide, by decide⟩, _, _, rfl, rfl, ?_⟩
      exact ⟨(by show 3 ≤ sizeLine; decide), fun p np => q p _ np ⟨_, _, _, rfl, (fin 0).1, (fin 0).2.1, (fin 0).2.2, Int.le_refl _, Int.le_refl _⟩⟩
/-- a draw: a number below m; the pot changes alone -/
def spDip : Sp := fun vs H Q _ => ∃ (p : Addr) (m : Int) (N : Nat), vs = [.ref p, .int m] ∧ 0 < m ∧ m ≤ 10 ^ 18 ∧ PotAt H p N ∧ N ≤ 1000000 ∧
  ∀ (r : Nat) ws, (r : Int) < m → PotV (N + 1) ws → Q (.int r) (upd H p (.lst ws))
theorem ok_dip {f : Addr} {fd : FuncData} {k : Nat} (F : Fun K "_law_dip" "_law_dip" sDip f fd) : FnOk P w K mg base CX0 (k + 1) f fd ["pot", "many"] spDip := by
  refine F.ok scDip (fun vs H Q E h => ?_) (fun cdv A outer s H vs Q E hr h => ?_)
  · obtain ⟨p, m, N, rfl, _⟩ := h
    rfl
  · obtain ⟨p, m, N, rfl, hm, hm2, ⟨ws, hp, a, c, n, rfl, h0, h1, h2, h3, h4⟩, hN, q⟩ := h
    refine ⟨_, pss_cons (ps_if (pt_cmpR op_gt (pe_ix ix_list (pv 0) pe_int (fun _ _ => rfl)) pe_int (nomark _))
        (pss_cons (ps_set (i := 2) scDip.nd rfl (.inl rfl) (pe_op op_mod (pe_ix ix_list (pv 0) pe_int (fun _ _ => rfl)) (pv 1)))
        (pss_cons (ps_asg (pe_op op_fdivW (pe_ix ix_list (pv 0) pe_int (fun _ _ => rfl)) (pv 1)) (pg_sub (pv 0) pe_int set_list))
        (pss_one (ps_ret (pv 2))))) pss_nil)
      (pss_cons (ps_asg (pe_op op_add (pe_ix ix_list (pv 0) pe_int (fun _ _ => rfl)) pe_int) (pg_sub (pv 0) pe_int set_list))
      (pss_cons (ps_set (i := 3) scDip.nd rfl (.inl rfl) (pe_op op_mod (pe_op op_powW (pe_op op_add (pe_ix ix_list (pv 0) pe_int (fun _ _ => rfl)) (pe_op op_mul pe_int (pe_ix ix_list (pv 0) pe_int (fun _ _ => rfl)))) pe_int) (pe_op op_add (pe_op op_pow pe_int pe_int) pe_int)))
      (pss_cons (ps_set (i := 3) scDip.nd rfl (.inl rfl) (pe_op op_mod (pe_op op_powW (pe_op op_add (pv 3) (pe_op op_mul pe_int (pe_ix ix_list (pv 0) pe_int (fun _ _ => rfl)))) pe_int) (pe_op op_add (pe_op op_pow pe_int pe_int) pe_int)))
      (pss_one (ps_ret (pe_op op_mod (pe_op op_fdiv (pv 3) pe_int) (pv 1))))))), ?_⟩
    have hL : SqL K H p [.int a, .int c, .int n] := .inl (.inl hp)
    have i0 : atI ([.int a, .int c, .int n] : List V) 0 = some (.int a) := atI_nat (j := 0) rfl
    have i2 : atI ([.int a, .int c, .int n] : List V) 2 = some (.int n) := atI_nat (j := 2) rfl
    refine ⟨.ref p, rfl, p, _, 0, .int a, rfl, rfl, hL, i0, a, 0, rfl, rfl, _, rfl, ite2 (fun e => ?_) (fun e => ?_)⟩
    · have ha : 0 < a := of_decide_eq_true e
      have hr := modlt (a := a) hm
      refine ⟨.ref p, rfl, p, _, 0, .int a, rfl, rfl, hL, i0, .int m, rfl, a, m, rfl, rfl, hm, ?_⟩
      refine ⟨.ref p, rfl, p, _, 0, .int a, rfl, rfl, hL, i0, .int m, rfl, a, m, rfl, rfl, wide_div (b := 70) hm (int_lt_pow (Int.le_of_lt hm) (Int.lt_of_le_of_lt hm2 (by decide))) (by decide) (by decide), ?_⟩
      refine ⟨.ref p, rfl, p, _, 0, 0, rfl, rfl, hp, rfl, ?_⟩
      refine ⟨.int (a % m), rfl, ?_⟩
      have er : a % m = (((a % m).toNat : Nat) : Int) := (Int.toNat_of_nonneg hr.1).symm
      rw [er]
      exact q _ _ (by rw [← er]; exact hr.2) ⟨_, _, _, rfl, Int.ediv_nonneg h0 (by omega), h1, h2, h3, by omega⟩
    · refine ⟨.ref p, rfl, p, _, 2, .int n, rfl, rfl, hL, i2, n, 1, rfl, rfl, ?_⟩
      refine ⟨.ref p, rfl, p, _, 2, 2, rfl, rfl, hp, rfl, ?_⟩
      have hp2 : (upd H p (.lst [.int a, .int c, .int (n + 1)])) p = some (.lst [.int a, .int c, .int (n + 1)]) := upd_same
      have hL2 : SqL K (upd H p (.lst [.int a, .int c, .int (n + 1)])) p [.int a, .int c, .int (n + 1)] := .inl (.inl hp2)
      have j1 : atI ([.int a, .int c, .int (n + 1)] : List V) 1 = some (.int c) := atI_nat (j := 1) rfl
      have j2 : atI ([.int a, .int c, .int (n + 1)] : List V) 2 = some (.int (n + 1)) := atI_nat (j := 2) rfl
      refine ⟨.ref p, rfl, p, _, 1, .int c, rfl, rfl, hL2, j1, .ref p, rfl, p, _, 2, .int (n + 1), rfl, rfl, hL2, j2, 9999991, n + 1, rfl, rfl, .inl ⟨by decide, by decide⟩, c, _, rfl, rfl, ?_⟩
      have b1 : (c + 9999991 * (n + 1)).natAbs < 2 ^ 200 := int_lt_pow (by omega) (by
        have : (10 : Int) ^ 39 + 9999991 * 1000002 < 2 ^ 200 := by decide
        omega)
      refine ⟨_, 3, rfl, rfl, ⟨by decide, by decide, b1⟩, 10, 36, rfl, rfl, ⟨by decide, by decide, by decide⟩, _, 67, rfl, rfl, _, _, rfl, rfl, (by show (0 : Int) < 10 ^ 36 + 67; decide), ?_⟩
      obtain ⟨z, hz⟩ : ∃ z, z = (c + 9999991 * (n + 1)) ^ (3 : Int).toNat % (10 ^ (36 : Int).toNat + 67) := ⟨_, rfl⟩
      have hz1 := modlt (a := (c + 9999991 * (n + 1)) ^ (3 : Int).toNat) (b := 10 ^ (36 : Int).toNat + 67) (by decide)
      rw [← hz] at hz1
      refine ⟨.int z, congrArg (fun i => some (some (V.int i))) hz.symm, .ref p, rfl, p, _, 2, .int (n + 1), rfl, rfl, hL2, j2, 7919, n + 1, rfl, rfl, .inl ⟨by decide, by decide⟩, z, _, rfl, rfl, ?_⟩
      have b2 : (z + 7919 * (n + 1)).natAbs < 2 ^ 200 := int_lt_pow (by omega) (by
        have : (10 : Int) ^ (36 : Int).toNat + 67 + 7919 * 1000002 < 2 ^ 200 := by decide
        omega)
      refine ⟨_, 3, rfl, rfl, ⟨by decide, by decide, b2⟩, 10, 33, rfl, rfl, ⟨by decide, by decide, by decide⟩, _, 61, rfl, rfl, _, _, rfl, rfl, (by show (0 : Int) < 10 ^ 33 + 61; decide), ?_⟩
      obtain ⟨y, hy⟩ : ∃ y, y = (z + 7919 * (n + 1)) ^ (3 : Int).toNat % (10 ^ (33 : Int).toNat + 61) := ⟨_, rfl⟩
      refine ⟨.int y, congrArg (fun i => some (some (V.int i))) hy.symm, y, 4096, rfl, rfl, ⟨by decide, by decide⟩, .int m, rfl, y / 4096, m, rfl, rfl, hm, ?_⟩
      have hr := modlt (a := y / 4096) hm
      have er : y / 4096 % m = (((y / 4096 % m).toNat : Nat) : Int) := (Int.toNat_of_nonneg hr.1).symm
      show Q (.int (y / 4096 % m)) _
      rw [er]
      exact q _ _ (by rw [← er]; exact hr.2) ⟨_, _, _, rfl, h0, h1, h2, by omega, by omega⟩
end
end L_k58

namespace L_k58
open PySem PySem.Spec PyProof.Rows L2 Lot
abbrev sCells : Stmt := topS 15
theorem scCells : FnScope ["board"] ["board"] (defScope sCells) := ⟨rfl, rfl, rfl, by decide +kernel, rfl, by decide +kernel, by decide +kernel⟩
section
variable {P : Program} {w : World} {K : PySem.W.Frag} {mg : Str → Option Value} {base : Heap}
/-- _law_cells(board) -/
def spCells (K : PySem.W.Frag) : Sp := fun vs H Q _ => ∃ (b : Addr) (bd : Bd), vs = [.ref b] ∧ SqT K H b bd.vals ∧ bd.Ok 36 ∧ Q (.int bd.cells) H
theorem ok_cells {f : Addr} {fd : FuncData} (F : Fun K "_law_cells" "_law_cells" sCells f fd) : FnOk P w K mg base CX0 1 f fd ["board"] (spCells K) := by
  refine F.ok scCells (fun vs H Q E h => ?_) (fun cdv A outer s H vs Q E hr h => ?_)
  · obtain ⟨b, bd, rfl, _⟩ := h
    rfl
  · obtain ⟨b, bd, rfl, hB, ok, q⟩ := h
    refine ⟨_, pss_one (ps_ret (pe_ifExp (pt_cmpR op_eq (pe_ix ix_tup (pv 0) pe_int (fun _ _ => rfl)) pe_str (nomark _)) (pe_op op_mul (pe_ix ix_tup (pv 0) pe_int (fun _ _ => rfl)) (pe_ix ix_tup (pv 0) pe_int (fun _ _ => rfl))) (pe_ix ix_tup (pv 0) pe_int (fun _ _ => rfl)))), ?_⟩
    cases bd with
    | row n =>
      refine ⟨.ref b, rfl, b, _, 0, _, rfl, rfl, hB, atI_nat (j := 0) rfl, rfl, _, rfl, iteN (by decide +kernel) ?_⟩
      refine ⟨.ref b, rfl, b, _, 1, _, rfl, rfl, hB, atI_nat (j := 1) rfl, ?_⟩
      have e : (Bd.row n).cells = n := Nat.one_mul n
      rw [e] at q
      exact q
    | ring n =>
      refine ⟨.ref b, rfl, b, _, 0, _, rfl, rfl, hB, atI_nat (j := 0) rfl, rfl, _, rfl, iteN (by decide +kernel) ?_⟩
      refine ⟨.ref b, rfl, b, _, 1, _, rfl, rfl, hB, atI_nat (j := 1) rfl, ?_⟩
      have e : (Bd.ring n).cells = n := Nat.one_mul n
      rw [e] at q
      exact q
    | floor h w =>
      obtain ⟨o1, o2, o3⟩ := ok
      have h36 : h ≤ 36 := Nat.le_trans (Nat.le_mul_of_pos_right h o2) o3
      refine ⟨.ref b, rfl, b, _, 0, _, rfl, rfl, hB, atI_nat (j := 0) rfl, rfl, _, rfl, iteP (by decide +kernel) ?_⟩
      refine ⟨.ref b, rfl, b, _, 1, .int h, rfl, rfl, hB, atI_nat (j := 1) rfl, .ref b, rfl, b, _, 2, .int w, rfl, rfl, hB, atI_nat (j := 2) rfl, h, w, rfl, rfl, .inl ⟨by omega, by omega⟩, ?_⟩
      have e : (((Bd.floor h w).cells : Nat) : Int) = (h : Int) * (w : Int) := Int.natCast_mul h w
      rw [e] at q
      exact q
end
end L_k58

namespace L_k58
open PySem PySem.Spec PyProof.Rows L2 Lot
abbrev sHighAndWide : Stmt := topS 1
theorem scHighAndWide : FnScope ["board"] ["board"] (defScope sHighAndWide) := ⟨rfl, rfl, rfl, by decide +kernel, rfl, by decide +kernel, by decide +kernel⟩
abbrev sIsName : Stmt := topS 9
theorem scIsName : FnScope ["word", "sign"] ["word"] (defScope sIsName) := ⟨rfl, rfl, rfl, by decide +kernel, rfl, by decide +kernel, by decide +kernel⟩
abbrev sThingOf : Stmt := topS 11
theorem scThingOf : FnScope ["word"] ["word"] (defScope sThingOf) := ⟨rfl, rfl, rfl, by decide +kernel, rfl, by decide +kernel, by decide +kernel⟩
abbrev sIsDue : Stmt := topS 10
theorem scIsDue : FnScope ["word", "at", "wide", "name", "_"] ["word", "at", "wide"] (defScope sIsDue) := ⟨rfl, rfl, rfl, by decide +kernel, rfl, by decide +kernel, by decide +kernel⟩
section
variable {P : Program} {w : World} {K : PySem.W.Frag} {mg : Str → Option Value} {base : Heap}
def spHigh : Sp := fun vs H Q _ => ∃ (b : Addr) (bd : Bd), vs = [.ref b] ∧ H b = some (.tup bd.vals) ∧ ∀ t, H t = none → Q (.ref t) (upd H t (.tup [.int bd.high, .int bd.wide]))
theorem ok_high {f : Addr} {fd : FuncData} (F : Fun K "high_and_wide" "high_and_wide" sHighAndWide f fd) : FnOk P w K mg base CX0 1 f fd ["board"] spHigh := by
  refine F.ok scHighAndWide (fun vs H Q E h => ?_) (fun cdv A outer s H vs Q E hr h => ?_)
  · obtain ⟨b, bd, rfl, _⟩ := h
    rfl
  · obtain ⟨b, bd, rfl, hB', q⟩ := h
    have hB : SqT K H b bd.vals := .inl (.inl hB')
    refine ⟨_, (pss_cons (ps_if (pt_cmpR op_eq (pe_ix ix_tup (pv 0) pe_int (fun _ _ => rfl)) pe_str (nomark _)) (pss_one (ps_ret (pe_tup (pa_cons (pe_ix ix_tup (pv 0) pe_int (fun _ _ => rfl)) (pa_cons (pe_ix ix_tup (pv 0) pe_int (fun _ _ => rfl)) pa_nil))))) pss_nil)
      (pss_one (ps_ret (pe_tup (pa_cons pe_int (pa_cons (pe_ix ix_tup (pv 0) pe_int (fun _ _ => rfl)) pa_nil)))))), ?_⟩
    cases bd with
    | row n =>
      refine ⟨.ref b, rfl, b, _, 0, _, rfl, rfl, hB, atI_nat (j := 0) rfl, rfl, _, rfl, iteN (by decide +kernel) ?_⟩
      exact ⟨.ref b, rfl, b, _, 1, _, rfl, rfl, hB, atI_nat (j := 1) rfl, (by show 2 ≤ sizeLine; decide), fun t nt => q t nt⟩
    | ring n =>
      refine ⟨.ref b, rfl, b, _, 0, _, rfl, rfl, hB, atI_nat (j := 0) rfl, rfl, _, rfl, iteN (by decide +kernel) ?_⟩
      exact ⟨.ref b, rfl, b, _, 1, _, rfl, rfl, hB, atI_nat (j := 1) rfl, (by show 2 ≤ sizeLine; decide), fun t nt => q t nt⟩
    | floor h w =>
      refine ⟨.ref b, rfl, b, _, 0, _, rfl, rfl, hB, atI_nat (j := 0) rfl, rfl, _, rfl, iteP (by decide +kernel) ?_⟩
      exact ⟨.ref b, rfl, b, _, 1, _, rfl, rfl, hB, atI_nat (j := 1) rfl, .ref b, rfl, b, _, 2, _, rfl, rfl, hB, atI_nat (j := 2) rfl, (by show 2 ≤ sizeLine; decide), fun t nt => q t nt⟩
/-- is_name(word) -/
def spIsName : Sp := fun vs H Q _ => ∃ z : Str, vs = [.str z] ∧ z.length ≤ sizeLine ∧ ∀ H', Same H H' → Q (.bl (isName z)) H'
theorem ok_isName {f : Addr} {fd : FuncData} {t4 tl : Tok} (F : Fun K "is_name" "is_name" sIsName f fd) (m_len : mg "len" = none) (m_all : mg "all" = none) (g_MOST_LETTERS : mg "MOST_LETTERS" = some (.int 4 t4)) (g_LETTERS : mg "LETTERS" = some (.str abc tl)) :
    FnOk P w K mg base CX0 1 f fd ["word"] spIsName := by
  refine F.ok scIsName (fun vs H Q E h => ?_) (fun cdv A outer s H vs Q E hr h => ?_)
  · obtain ⟨z, rfl, _⟩ := h
    rfl
  · obtain ⟨z, rfl, hz, q⟩ := h
    refine ⟨_, (pss_cons (ps_if (pt_not (pt_chain op_le op_le pe_int (pe_callB call_len_str (by rfl) m_len PySem.boot_len (pa_cons (pv 0) pa_nil)) (pe_glob (v := .int 4) (by rfl) g_MOST_LETTERS ⟨_, rfl⟩))) (pss_one (ps_ret pe_bl)) pss_nil)
      (pss_one (ps_ret (pe_callB (cr_all rfl) (by rfl) m_all (by decide +kernel) (pa_cons (pe_lc (own := [("sign", 1)]) (g := gName 1) (tt := tYes) rfl scIsName.nd (pi_str (pv 0)) (blkOk_by (own := [("sign", 1)]) (N := ["word", "sign"]) (sc := defScope sIsName) (by decide +kernel)) (fun _ _ _ _ _ => (pg_name (i := 1) scIsName.nd rfl (by first | exact .inl rfl | exact .inr rfl))) (fun _ _ _ _ _ => pts_nil) (fun _ _ _ _ _ => by exact (pe_cmpR op_in_sign (pv 1) (pe_glob (v := .str abc) (by rfl) g_LETTERS ⟨_, rfl⟩) (by rfl)))) pa_nil))))), ?_⟩
    have no : ¬ (1 ≤ z.length ∧ z.length ≤ 4) → isName z = false := fun c => by
      unfold isName
      rw [Bool.and_eq_false_iff, Bool.and_eq_false_iff]
      by_cases c1 : 1 ≤ z.length
      · exact .inl (.inr (decide_eq_false fun c2 => c ⟨c1, c2⟩))
      · exact .inl (.inl (decide_eq_false c1))
    refine ⟨.str z, rfl, z, rfl, hz, 1, z.length, rfl, rfl, _, rfl, ite2 (fun e => ?_) (fun e => ?_)⟩
    · have h1 : 1 ≤ z.length := by have := of_decide_eq_true e; omega
      refine ⟨z.length, 4, rfl, rfl, _, rfl, ?_⟩
      by_cases c2 : z.length ≤ 4
      · refine iteN (by rw [decide_eq_true (show (z.length : Int) ≤ 4 by omega)]; rfl) ?_
        refine ⟨.str z, rfl, z, rfl, fun D nD => ?_⟩
        refine lc_it walk_str (fun i H' => H' D = some (.lst (((z.cps.toList.take i).map fun c => decide (c ∈ abc.cps.toList)).map V.bl)) ∧ Same H H') ⟨upd_same, same_upd nD⟩ (fun _ _ _ _ => trivial) (fun i x H1 H2 hi hI hY => ?_) (fun H' hI => ?_)
        · obtain ⟨e1, e2⟩ := hI
          obtain ⟨rfl, c, hc, rfl⟩ := hY
          have hc' : z.cps.toList[i]? = some c := by rw [Array.getElem?_toList]; exact hc
          refine ⟨rfl, .str ⟨#[c]⟩, rfl, c, abc, rfl, rfl, _, e1, ?_, ?_, same_new e2 nD⟩
          · rw [List.length_map, List.length_map, List.length_take]
            have : z.cps.toList.length = z.length := by simp [Str.length]
            exact small1000 (by omega)
          · rw [upd_same, List.take_add_one, hc', List.map_append, List.map_append]
            rfl
        · obtain ⟨e1, e2⟩ := hI
          have ea : z.cps.toList.take z.cps.size = z.cps.toList := List.take_of_length_le (by rw [Array.length_toList]; exact Nat.le_refl _)
          rw [ea] at e1
          refine ⟨D, _, rfl, .inl (.inl e1), ?_⟩
          have eq : isName z = ((z.cps.toList.map fun c => decide (c ∈ abc.cps.toList)).all id) := by
            unfold isName
            rw [decide_eq_true h1, decide_eq_true c2, List.all_map]
            rfl
          rw [← eq]
          exact q _ e2
      · refine iteP (by rw [decide_eq_false (show ¬ (z.length : Int) ≤ 4 by omega)]; rfl) ?_
        have := q H (Same.refl H)
        rw [no fun c => c2 c.2] at this
        exact this
    · refine ⟨false, rfl, iteP rfl ?_⟩
      have := q H (Same.refl H)
      rw [no fun c => e (decide_eq_true (by omega))] at this
      exact this
/-- _thing_of(word) -/
def spThingOf : Sp := fun vs H Q _ => ∃ z : Str, vs = [.str z] ∧ z.length ≤ sizeLine ∧ ∀ t, H t = none → Q (.ref t) (upd H t (.tup (thing (thingOf z))))
theorem ok_thingOf {f : Addr} {fd : FuncData} (F : Fun K "_thing_of" "_thing_of" sThingOf f fd) : FnOk P w K mg base CX0 1 f fd ["word"] spThingOf := by
  refine F.ok scThingOf (fun vs H Q E h => ?_) (fun cdv A outer s H vs Q E hr h => ?_)
  · obtain ⟨z, rfl, _⟩ := h
    rfl
  · obtain ⟨z, rfl, hz, q⟩ := h
    refine ⟨_, (pss_cons (ps_if (pt_val (pe_m1 PySem.F.slot_str_startswith PySem.F.type_str_startswith mt_startswith (pv 0) pe_str)) (pss_one (ps_ret (pe_tup (pa_cons (pe_slice sl_str (pv 0) (po_some pe_int) po_none) (pa_cons pe_int pa_nil))))) pss_nil)
      (pss_one (ps_ret (pe_tup (pa_cons (pv 0) (pa_cons pe_int pa_nil)))))), ?_⟩
    refine ⟨.str z, rfl, ⟨_, rfl⟩, z, minus, rfl, rfl, _, rfl, ?_⟩
    unfold thingOf at q
    by_cases c : Txt.startswith z minus = true
    · rw [if_pos c] at q
      refine iteP c ⟨.str z, rfl, 1, rfl, z, rfl, hz, (by show 2 ≤ sizeLine; decide), fun t nt => q t nt⟩
    · rw [if_neg c] at q
      refine iteN (by simpa using c) ⟨.str z, rfl, (by show 2 ≤ sizeLine; decide), fun t nt => q t nt⟩
/-- _is_due(word, at, wide) -/
def spIsDue : Sp := fun vs H Q _ => ∃ (z : Str) (i wide : Nat), vs = [.str z, .int i, .int wide] ∧ z.length ≤ sizeLine ∧ ∀ H', Same H H' → Q (.bl (isDue z i wide)) H'
theorem thing_len (z : Str) : (thingOf z).1.length ≤ z.length := by
  unfold thingOf
  split
  · rw [cut_one]
    have : z.length = z.cps.toList.length := by simp [Str.length]
    rw [this]
    show (z.cps.toList.drop 1).toArray.size ≤ _
    rw [List.size_toArray, List.length_drop]
    omega
  · exact Nat.le_refl _
theorem ok_isDue {f fT fN : Addr} {fd fdT fdN : FuncData} (F : Fun K "_is_due" "_is_due" sIsDue f fd) (D__thing_of : Def P w K mg base 1 "_thing_of" ["word"] spThingOf fT fdT) (D_is_name : Def P w K mg base 1 "is_name" ["word"] spIsName fN fdN) :
    FnOk P w K mg base CX0 2 f fd ["word", "at", "wide"] spIsDue := by
  refine F.ok scIsDue (fun vs H Q E h => ?_) (fun cdv A outer s H vs Q E hr h => ?_)
  · obtain ⟨z, i, wide, rfl, _⟩ := h
    rfl
  · obtain ⟨z, i, wide, rfl, hz, q⟩ := h
    refine ⟨_, (pss_cons (ps_if (pt_cmpR op_eq (pe_op op_mod (pv 1) (pe_op op_add (pv 2) pe_int)) (pv 2) (nomark _)) (pss_one (ps_ret (pe_cmpR op_eq (pv 0) pe_str (nomark _)))) pss_nil)
      (pss_cons (ps_asg (pe_call D__thing_of.ok (hr.mono (by decide)) (by rfl) D__thing_of.g D__thing_of.kp D__thing_of.b .nil pass0 (pa_cons (pv 0) pa_nil)) (pg_tup (by rfl) (pgs_cons (pg_name (i := 3) scIsDue.nd rfl (by first | exact .inl rfl | exact .inr rfl)) (pgs_cons (pg_name (i := 4) scIsDue.nd rfl (by first | exact .inl rfl | exact .inr rfl)) pgs_nil))))
      (pss_one (ps_ret (pe_call D_is_name.ok (hr.mono (by decide)) (by rfl) D_is_name.g D_is_name.kp D_is_name.b .nil pass0 (pa_cons (pv 3) pa_nil)))))), ?_⟩
    have em : (i : Int) % ((wide : Int) + 1) = ((i % (wide + 1) : Nat) : Int) := by rw [Int.natCast_emod]; rfl
    refine ⟨.int i, rfl, .int wide, rfl, wide, 1, rfl, rfl, i, _, rfl, rfl, by show (0 : Int) < (wide : Int) + 1; omega, .int wide, rfl, rfl, _, rfl, ?_⟩
    unfold isDue at q
    by_cases c : i % (wide + 1) = wide
    · rw [if_pos c] at q
      refine iteP (decide_eq_true ?_) ?_
      · show V.int ((i : Int) % ((wide : Int) + 1)) = V.int wide
        rw [em, c]
      · have := q H (Same.refl H)
        refine ⟨.str z, rfl, rfl, ?_⟩
        have e : decide (V.str z = V.str slash) = decide (z = slash) := by
          by_cases h : z = slash
          · rw [h]; rfl
          · rw [decide_eq_false h, decide_eq_false fun x => h (V.str.inj x)]
        rw [← e] at this
        exact this
    · rw [if_neg c] at q
      refine iteN (decide_eq_false fun x => c ?_) ?_
      · have x' : V.int ((i : Int) % ((wide : Int) + 1)) = V.int wide := x
        rw [em] at x'
        have := V.int.inj x'
        omega
      · refine ⟨.str z, rfl, z, rfl, hz, fun t nt => ?_⟩
        refine ⟨t, thing (thingOf z), rfl, .inl (.inl upd_same), rfl, .str (thingOf z).1, [.int (thingOf z).2], rfl, .int (thingOf z).2, [], rfl, rfl, ?_⟩
        refine ⟨.str (thingOf z).1, rfl, _, rfl, Nat.le_trans (thing_len z) hz, fun H' s => q H' ((same_upd nt).trans s)⟩
end
end L_k58

namespace L_k58
open PySem PySem.Spec PyProof.Rows L2 Lot
abbrev sReadStanding : Stmt := topS 8
theorem scReadStanding : FnScope ["board", "text", "high", "wide", "words_due", "words", "at", "word"] ["board", "text"] (defScope sReadStanding) := ⟨rfl, rfl, rfl, by decide +kernel, rfl, by decide +kernel, by decide +kernel⟩
section
variable {P : Program} {w : World} {K : PySem.W.Frag} {mg : Str → Option Value} {base : Heap}
/-- a text read: a standing, or NoStanding with the first word that is not due -/
def spRead (C : Addr) : Sp := fun vs H Q E => ∃ (b : Addr) (bd : Bd) (text : Str), vs = [.ref b, .str text] ∧ H b = some (.tup bd.vals) ∧ bd.Ok 36 ∧ text.length ≤ 10000 ∧
  (∀ i, badAt bd text = some i → ∀ H' d, Same H H' → H' d = none → E (.ref C) (some d) (upd H' d (.xd [("at", .int (i : Nat))]))) ∧
  (badAt bd text = none → ∀ H' t, Same H H' → H t = none → StandAt H' t (thingsIn (Txt.split text blank)) → Q (.ref t) H')
theorem high_le {bd : Bd} (ok : bd.Ok 36) : bd.high ≤ 36 ∧ bd.wide ≤ 36 := by
  cases bd with
  | row n => exact ⟨by show 1 ≤ 36; decide, ok.2⟩
  | ring n => exact ⟨by show 1 ≤ 36; decide, ok.2⟩
  | floor h w =>
    obtain ⟨o1, o2, o3⟩ := ok
    exact ⟨Nat.le_trans (Nat.le_mul_of_pos_right h o2) o3, Nat.le_trans (Nat.le_mul_of_pos_left w o1) o3⟩
theorem ok_read {f fH fT fD C fI cc cda : Addr} {fd fdH fdT fdD : FuncData} {st : Stmt} {qual : Str} {msg : Expr} (F : Fun K "read_standing" "read_standing" sReadStanding f fd) (D_high_and_wide : Def P w K mg base 1 "high_and_wide" ["board"] spHigh fH fdH)
    (D__thing_of : Def P w K mg base 1 "_thing_of" ["word"] spThingOf fT fdT) (D__is_due : Def P w K mg base 2 "_is_due" ["word", "at", "wide"] spIsDue fD fdD) (m_enumerate : mg "enumerate" = none) (m_len : mg "len" = none) (m_tuple : mg "tuple" = none)
    (T : SupTxt P K st qual "at" msg C fI cc cda) (Tx : SupText st "at" msg) (M : MsgOk P w msg "at" okInt) (gN : mg "NoStanding" = some (.ref C)) :
    FnOk P w K mg base (L2.CX P w) 4 f fd ["board", "text"] (spRead C) := by
  refine F.okX scReadStanding (fun vs H Q E h => ?_) (fun cdv A outer s H vs Q E hr h => ?_)
  · obtain ⟨b, bd, text, rfl, _⟩ := h
    rfl
  · obtain ⟨b, bd, text, rfl, hB, ok, htl, eX, q⟩ := h
    have hw := high_le ok
    have hp := Bd.pos ok
    have hsl := Lot.split_le text
    have hsz : 20000 ≤ sizeLine := by decide
    unfold badAt at eX q
    generalize hws : Txt.split text blank = ws at *
    refine ⟨_, (pss_cons (ps_asg (pe_call D_high_and_wide.ok (hr.mono (by decide)) (by rfl) D_high_and_wide.g D_high_and_wide.kp D_high_and_wide.b .nil pass0 (pa_cons (pv 0) pa_nil)) (pg_tup (by rfl) (pgs_cons (pg_name (i := 2) scReadStanding.nd rfl (by first | exact .inl rfl | exact .inr rfl)) (pgs_cons (pg_name (i := 3) scReadStanding.nd rfl (by first | exact .inl rfl | exact .inr rfl)) pgs_nil))))
      (pss_cons (ps_set (i := 4) scReadStanding.nd rfl (by first | exact .inl rfl | exact .inr rfl) (pe_op op_sub (pe_op op_mul (pv 2) (pe_op op_add (pv 3) pe_int)) pe_int))
      (pss_cons (ps_set (i := 5) scReadStanding.nd rfl (by first | exact .inl rfl | exact .inr rfl) (pe_split (pv 1) pe_str))
      (pss_cons (ps_for (passes_of rfl) rfl (pi_enum (by rfl) m_enumerate (pa_cons (pv 5) pa_nil)) (pg_tup (by rfl) (pgs_cons (pg_name (i := 6) scReadStanding.nd rfl (by first | exact .inl rfl | exact .inr rfl)) (pgs_cons (pg_name (i := 7) scReadStanding.nd rfl (by first | exact .inl rfl | exact .inr rfl)) pgs_nil))) (pss_one (ps_if (PW.pt (pw_or (pt_cmpR op_ge (pv 6) (pv 4) (nomark _)) (pw_or1 (pt_not (pt_val (pe_call D__is_due.ok (hr.mono (by decide)) (by rfl) D__is_due.g D__is_due.kp D__is_due.b .nil pass0 (pa_cons (pv 7) (pa_cons (pv 6) (pa_cons (pv 3) pa_nil))))))))) (pss_one (ps_raiseSup (okV := okI) rfl T Tx M okI_rel gN hr (takes_of rfl rfl rfl rfl) (by exact (pa_cons (pv 6) pa_nil)))) pss_nil)))
      (pss_cons (ps_if (pt_cmpR op_lt (pe_callB call_len_seq (by rfl) m_len PySem.boot_len (pa_cons (pv 5) pa_nil)) (pv 4) (nomark _)) (pss_one (ps_raiseSup (okV := okI) rfl T Tx M okI_rel gN hr (takes_of rfl rfl rfl rfl) (by exact (pa_cons (pe_callB call_len_seq (by rfl) m_len PySem.boot_len (pa_cons (pv 5) pa_nil)) pa_nil)))) pss_nil)
      (pss_one (ps_ret (pe_callTy call_tuple_of (by rfl) m_tuple (by decide +kernel) (pa_cons (pe_lc (own := [("word", 7)]) (g := gName 7) rfl scReadStanding.nd (pi_list (pv 5)) (blkOk_by (own := [("word", 7)]) (N := ["board", "text", "high", "wide", "words_due", "words", "at", "word"]) (sc := defScope sReadStanding) (by decide +kernel)) (fun _ _ _ _ _ => (pg_name (i := 7) scReadStanding.nd rfl (by first | exact .inl rfl | exact .inr rfl))) (fun _ _ _ _ _ => pts_one (by exact (pt_cmpR op_ne (pv 7) pe_str (nomark _)))) (fun _ _ _ _ _ => by exact (pe_call D__thing_of.ok (hr.mono (by decide)) (by rfl) D__thing_of.g D__thing_of.kp D__thing_of.b .nil pass0 (pa_cons (pv 7) pa_nil)))) pa_nil))))))))), ?_⟩
    refine ⟨.ref b, rfl, b, bd, rfl, hB, fun u nu => ?_⟩
    refine ⟨u, [.int bd.high, .int bd.wide], rfl, .inl (.inl upd_same), rfl, .int bd.high, [.int bd.wide], rfl, .int bd.wide, [], rfl, rfl, ?_⟩
    have S1 := same_upd (o := .tup [.int bd.high, .int bd.wide]) nu
    generalize (upd H u (.tup [.int bd.high, .int bd.wide])) = H1 at *
    refine ⟨.int bd.high, rfl, .int bd.wide, rfl, bd.wide, 1, rfl, rfl, bd.high, _, rfl, rfl, .inl ⟨by omega, by omega⟩, _, 1, rfl, rfl, ?_⟩
    have edue : (bd.high : Int) * ((bd.wide : Int) + 1) - 1 = (dueMany bd : Int) := by
      unfold dueMany
      have h1 : 1 ≤ bd.high * (bd.wide + 1) := Nat.mul_pos hp.1 (Nat.succ_pos _)
      rw [Int.natCast_sub h1, Int.natCast_mul]
      rfl
    have due_le : dueMany bd ≤ 36 * 37 := by
      unfold dueMany
      have : bd.high * (bd.wide + 1) ≤ 36 * 37 := Nat.mul_le_mul hw.1 (by omega)
      omega
    refine ⟨.str text, rfl, ⟨_, rfl⟩, text, blank, rfl, rfl, by decide +kernel, by omega, fun W nW => ?_⟩
    rw [hws]
    have S2 := S1.trans (same_upd (o := .lst (ws.map V.str)) nW)
    have eW : (upd H1 W (.lst (ws.map V.str))) W = some (.lst (ws.map V.str)) := upd_same
    generalize (upd H1 W (.lst (ws.map V.str))) = H2 at *
    have wsl : ∀ z ∈ ws, z.length ≤ sizeLine := fun z hz => by have := hsl.1 z hz; omega
    refine ⟨.ref W, rfl, W, _, rfl, .inl (.inl eW), ?_⟩
    refine for_it (walk_enum (xs := ws.map V.str)) (fun i σ H' => (∃ y6 y7, σ = [some (.ref b), some (.str text), some (.int bd.high), some (.int bd.wide), some (.int ((bd.high : Int) * ((bd.wide : Int) + 1) - 1)), some (.ref W), y6, y7]) ∧ Same H2 H' ∧ ∀ j z, j < i → ws[j]? = some z → (decide (dueMany bd ≤ j) || !isDue z j bd.wide) = false)
      ⟨⟨none, none, rfl⟩, Same.refl _, fun j z h => absurd h (Nat.not_lt_zero _)⟩ (fun i σ H' hi hI => .inl (.inl (hI.2.1 _ _ eW))) (fun i x σ H' H'' hi hI hY => ?_) (fun σ H' hI => ?_)
    · obtain ⟨⟨y6, y7, rfl⟩, s, hgood⟩ := hI
      obtain ⟨T1, a1, a2, rfl, nT, rfl, g1, g2⟩ := hY
      obtain rfl : a1 = .int (i : Nat) := (Option.some.inj g1).symm
      rw [List.length_map] at hi
      obtain ⟨z, hz⟩ : ∃ z, ws[i]? = some z := ⟨_, List.getElem?_eq_getElem hi⟩
      obtain rfl : a2 = .str z := by
        have g2' : (ws.map V.str)[i]? = some a2 := g2
        rw [List.getElem?_map, hz] at g2'
        exact (Option.some.inj g2').symm
      have hi2 : i ≤ 10001 := by have := hsl.2; omega
      refine ⟨T1, [.int (i : Nat), .str z], rfl, .inl (.inl upd_same), rfl, .int (i : Nat), [.str z], rfl, .str z, [], rfl, rfl, ?_⟩
      have S3 := (S2.trans s).trans (same_upd (o := .tup [.int (i : Nat), .str z]) nT)
      refine ⟨.int (i : Nat), rfl, .int _, rfl, i, _, rfl, rfl, _, rfl, ite2 (fun e => ?_) (fun e => ?_)⟩
      · have hbad : (decide (dueMany bd ≤ i) || !isDue z i bd.wide) = true := by
          have h1 : (bd.high : Int) * ((bd.wide : Int) + 1) - 1 ≤ (i : Nat) := of_decide_eq_true e
          rw [edue] at h1
          rw [decide_eq_true (show dueMany bd ≤ i by omega), Bool.true_or]
        refine ⟨.int (i : Nat), rfl, .int (i : Nat), rfl, okI_nat (Nat.lt_of_le_of_lt hi2 (by decide)), fun d hd => ?_⟩
        exact eX i (firstBad_here hgood hz hbad) _ d S3 hd
      · have hlt : ¬ dueMany bd ≤ i := fun h => e (decide_eq_true (by
          show (bd.high : Int) * ((bd.wide : Int) + 1) - 1 ≤ (i : Nat)
          rw [edue]; omega))
        refine ⟨.str z, rfl, .int (i : Nat), rfl, .int bd.wide, rfl, z, i, bd.wide, rfl, wsl z (List.mem_of_getElem? hz), fun H3 s3 => ?_⟩
        cases hdue : isDue z i bd.wide with
        | false =>
          refine ⟨false, rfl, iteP rfl ?_⟩
          refine ⟨.int (i : Nat), rfl, .int (i : Nat), rfl, okI_nat (Nat.lt_of_le_of_lt hi2 (by decide)), fun d hd => ?_⟩
          exact eX i (firstBad_here hgood hz (by rw [hdue]; simp)) _ d (S3.trans s3) hd
        | true =>
          refine ⟨true, rfl, iteN rfl ⟨⟨_, _, rfl⟩, (s.trans (same_upd nT)).trans s3, fun j y hj hy => ?_⟩⟩
          by_cases c : j = i
          · subst c
            rw [hz] at hy
            have := Option.some.inj hy
            subst this
            rw [hdue, decide_eq_false hlt]
            rfl
          · exact hgood j y (by omega) hy
    · obtain ⟨⟨y6, y7, rfl⟩, s, hgood⟩ := hI
      have eW' := s _ _ eW
      have hall : ∀ j z, ws[j]? = some z → (decide (dueMany bd ≤ j) || !isDue z j bd.wide) = false := fun j z hz => hgood j z (by rw [List.length_map]; exact (List.getElem?_eq_some_iff.mp hz).1) hz
      have hend := firstBad_end hall
      refine ⟨.ref W, rfl, W, _, rfl, .inl (.inl (.inl eW')), .int _, rfl, _, _, rfl, rfl, _, rfl, ite2 (fun e => ?_) (fun e => ?_)⟩
      · have c := of_decide_eq_true e
        rw [List.length_map] at c
        have c' : ws.length < dueMany bd := by omega
        refine ⟨.ref W, rfl, W, _, rfl, .inl (.inl (.inl eW')), _, rfl, okI_nat (by rw [List.length_map]; exact Nat.lt_of_le_of_lt (show ws.length ≤ 10001 by have := hsl.2; omega) (by decide)), fun d hd => ?_⟩
        rw [List.length_map]
        exact eX ws.length (by rw [hend, if_pos c']) _ d (S2.trans s) hd
      · have c' : ¬ ws.length < dueMany bd := fun h => e (decide_eq_true (by
          show (((ws.map V.str).length : Nat) : Int) < (bd.high : Int) * ((bd.wide : Int) + 1) - 1
          rw [List.length_map, edue]; omega))
        have hnone : firstBad (dueMany bd) bd.wide 0 ws = none := by rw [hend, if_neg c']
        have hwl := (firstBad_none hnone (Nat.zero_le _)).2
        refine ⟨.ref W, rfl, W, rfl, ⟨_, .inl (.inl eW')⟩, fun D nD => ?_⟩
        refine lc_list (K := K) (a := W) (xs := ws.map V.str) (fun i H3 => ∃ as : List Addr, H3 D = some (.lst (as.map V.ref)) ∧ Things H3 as (thingsIn (ws.take i)) ∧ Same H' H3) ⟨[], upd_same, trivial, same_upd nD⟩ (fun i H3 hi hI => ?_) (fun i y H3 hy hI => ?_) (fun H3 hI => ?_)
        · obtain ⟨as, e1, e2, e3⟩ := hI
          exact .inl (.inl (e3 _ _ eW'))
        · obtain ⟨as, e1, e2, e3⟩ := hI
          obtain ⟨z, hz, rfl⟩ : ∃ z, ws[i]? = some z ∧ y = V.str z := by
            rw [List.getElem?_map] at hy
            cases e : ws[i]? with
            | none => rw [e] at hy; cases hy
            | some z => rw [e] at hy; exact ⟨z, rfl, (Option.some.inj hy).symm⟩
          have hzl := wsl z (List.mem_of_getElem? hz)
          have hil := (List.getElem?_eq_some_iff.mp hz).1
          refine ⟨rfl, .str z, rfl, rfl, _, rfl, ?_⟩
          by_cases c : z = slash
          · refine iteN (by rw [c]; decide +kernel) ⟨as, e1, ?_, e3⟩
            unfold thingsIn at e2 ⊢
            rw [List.take_add_one, hz, List.filter_append, show (some z).toList = [z] from rfl, List.filter_cons_of_neg (by rw [decide_eq_true c]; decide), List.filter_nil, List.append_nil]
            exact e2
          · have c' : (!decide (V.str z = V.str (Str.ofString "/"))) = true := by
              rw [decide_eq_false fun x => c (V.str.inj x)]; rfl
            refine iteP c' ?_
            refine ⟨.str z, rfl, z, rfl, hzl, fun t nt => ?_⟩
            have Dt : D ≠ t := fun x => by rw [← x, e1] at nt; cases nt
            have e1b : (upd H3 t (.tup (thing (thingOf z)))) D = some (.lst (as.map V.ref)) := by rw [upd_ne Dt]; exact e1
            have e2b : Things (upd H3 t (.tup (thing (thingOf z)))) (as ++ [t]) (thingsIn (ws.take i) ++ [thingOf z]) := Things.snoc upd_same (e2.same (same_upd nt))
            have hal := e2.length
            have hle : (thingsIn (ws.take i)).length ≤ i := by
              unfold thingsIn
              rw [List.length_map]
              refine Nat.le_trans (List.length_filter_le _ _) ?_
              rw [List.length_take]
              exact Nat.min_le_left _ _
            refine ⟨as.map V.ref, e1b, ?_, as ++ [t], ?_, ?_, same_new (e3.trans (same_upd nt)) nD⟩
            · rw [List.length_map]
              exact Nat.lt_of_lt_of_le (show as.length < 20000 by omega) hsz
            · rw [upd_same, List.map_append]; rfl
            · have et : thingsIn (ws.take (i + 1)) = thingsIn (ws.take i) ++ [thingOf z] := by
                unfold thingsIn
                rw [List.take_add_one, hz, List.filter_append, show (some z).toList = [z] from rfl, List.filter_cons_of_pos (by rw [decide_eq_false c]; rfl), List.filter_nil, List.map_append]
                rfl
              rw [et]
              exact e2b.but But.upd ⟨_, e1b⟩
        · obtain ⟨as, e1, e2, e3⟩ := hI
          rw [List.length_map, List.take_length] at e2
          refine ⟨D, _, rfl, .inl ⟨.inl (.inl e1), fun t nt => ?_⟩⟩
          have S3 := (S2.trans s).trans e3
          exact q hnone _ t (S3.trans (same_upd nt)) (S3.free nt) ⟨as, upd_same, e2.same (same_upd nt)⟩
end
end L_k58

namespace L_k58
open PySem PySem.Spec PyProof.Rows L2 Lot
abbrev sThing : Stmt := topS 16
theorem scThing : FnScope ["word", "face", "name", "sign"] ["word"] (defScope sThing) := ⟨rfl, rfl, rfl, by decide +kernel, rfl, by decide +kernel, by decide +kernel⟩
abbrev sDue : Stmt := topS 17
theorem scDue : FnScope ["board", "text", "words", "found", "at", "cell", "edge"] ["board", "text"] (defScope sDue) := ⟨rfl, rfl, rfl, by decide +kernel, rfl, by decide +kernel, by decide +kernel⟩
section
variable {P : Program} {w : World} {K : PySem.W.Frag} {mg : Str → Option Value} {base : Heap}
def Ascii (z : Str) : Prop := ∀ c ∈ z.cps.toList, c < 128
theorem filter_empty {p : Nat → Bool} : ∀ l : List Nat, (l.filter fun c => !p c).isEmpty = l.all p
  | [] => rfl
  | c :: l => by
    have ih := filter_empty (p := p) l
    cases h : p c with
    | true => rw [List.filter_cons_of_neg (by rw [h]; decide), ih, List.all_cons, h, Bool.true_and]
    | false => rw [List.filter_cons_of_pos (by rw [h]; rfl), List.all_cons, h, Bool.false_and]; rfl
/-- _law_thing(word) -/
def spLThing : Sp := fun vs H Q _ => ∃ z : Str, vs = [.str z] ∧ z.length ≤ 20000 ∧ Ascii z ∧ (isName (thingOf z).1 = true → ∀ H' t, Same H H' → H t = none → H' t = some (.tup (thing (thingOf z))) → Q (.ref t) H') ∧ (isName (thingOf z).1 = false → ∀ H', Same H H' → Q .non H')
theorem ok_lthing {f : Addr} {fd : FuncData} (F : Fun K "_law_thing" "_law_thing" sThing f fd) (m_int : mg "int" = none) (m_len : mg "len" = none) : FnOk P w K mg base CX0 1 f fd ["word"] spLThing := by
  refine F.ok scThing (fun vs H Q E h => ?_) (fun cdv A outer s H vs Q E hr h => ?_)
  · obtain ⟨z, rfl, _⟩ := h
    rfl
  · obtain ⟨z, rfl, hz, asc, qy, qn⟩ := h
    refine ⟨_, (pss_cons (ps_set (i := 1) scThing.nd rfl (by first | exact .inl rfl | exact .inr rfl) (pe_callTy call_int1 (by rfl) m_int (by decide +kernel) (pa_cons (pe_cmpR op_eq (pe_slice sl_str (pv 0) po_none (po_some pe_int)) pe_str (nomark _)) pa_nil)))
      (pss_cons (ps_set (i := 2) scThing.nd rfl (by first | exact .inl rfl | exact .inr rfl) (pe_slice sl_str (pv 0) (po_some (pv 1)) po_none))
      (pss_cons (ps_if (PW.pt (pw_or (pt_cmpR op_lt (pe_callB call_len_str (by rfl) m_len PySem.boot_len (pa_cons (pv 2) pa_nil)) pe_int (nomark _)) (pw_or1 (pt_cmpR op_gt (pe_callB call_len_str (by rfl) m_len PySem.boot_len (pa_cons (pv 2) pa_nil)) pe_int (nomark _))))) (pss_one (ps_ret pe_non)) pss_nil)
      (pss_cons (ps_if (pt_cmpR (op_neD hr.units) (pe_lc (own := [("sign", 3)]) (g := gName 3) rfl scThing.nd (pi_str (pv 2)) (blkOk_by (own := [("sign", 3)]) (N := ["word", "face", "name", "sign"]) (sc := defScope sThing) (by decide +kernel)) (fun _ _ _ _ _ => (pg_name (i := 3) scThing.nd rfl (by first | exact .inl rfl | exact .inr rfl))) (fun _ _ _ _ _ => pts_one (by exact (pt_cmpR op_notIn_sign (pv 3) pe_str (by rfl)))) (fun _ _ _ _ _ => by exact (pv 3))) (pe_lst pa_nil) (nomark _)) (pss_one (ps_ret pe_non)) pss_nil)
      (pss_one (ps_ret (pe_tup (pa_cons (pv 2) (pa_cons (pv 1) pa_nil))))))))), ?_⟩
    have hsz : 30000 ≤ sizeLine := by decide
    obtain ⟨name, face, hth⟩ : ∃ name face, thingOf z = (name, face) := ⟨_, _, rfl⟩
    have hface : face = if Txt.startswith z minus = true then 1 else 0 := by
      unfold thingOf at hth
      by_cases c : Txt.startswith z minus = true
      · rw [if_pos c] at hth ⊢
        exact (Prod.mk.inj hth).2.symm
      · rw [if_neg c] at hth ⊢
        exact (Prod.mk.inj hth).2.symm
    have hname : cutS z (some (face : Int)) none = name := by
      unfold thingOf at hth
      by_cases c : Txt.startswith z minus = true
      · rw [if_pos c] at hth hface
        rw [hface]
        exact (Prod.mk.inj hth).1
      · rw [if_neg c] at hth hface
        rw [hface, ← (Prod.mk.inj hth).1]
        exact cut_zero z
    have hnl : name.length ≤ z.length := by
      have := thing_len z
      rw [hth] at this
      exact this
    have hnasc : ∀ c ∈ name.cps.toList, c < 128 := by
      intro c hc
      unfold thingOf at hth
      split at hth
      · rw [← (Prod.mk.inj hth).1, cut_one] at hc
        exact asc c (List.mem_of_mem_drop hc)
      · rw [← (Prod.mk.inj hth).1] at hc
        exact asc c hc
    rw [hth] at qy qn
    replace qy : isName name = true → ∀ H' t, Same H H' → H t = none → H' t = some (.tup (thing (name, face))) → Q (.ref t) H' := qy
    replace qn : isName name = false → ∀ H', Same H H' → Q .non H' := qn
    have hlen : name.length = name.cps.toList.length := by simp [Str.length]
    refine ⟨.str z, rfl, 1, rfl, z, rfl, by omega, rfl, .inr ⟨_, rfl, ?_⟩⟩
    have hf2 : (if decide (V.str (cutS z none (some 1)) = V.str (Str.ofString "-")) = true then (1 : Int) else 0) = (face : Int) := by
      rw [hface]
      by_cases c : Txt.startswith z minus = true
      · rw [if_pos c]
        exact if_pos (decide_eq_true (congrArg V.str ((cut_head z).mpr c)))
      · rw [if_neg c]
        exact if_neg (fun h => c ((cut_head z).mp (V.str.inj (of_decide_eq_true h))))
    refine ⟨.str z, rfl, .int (face : Int), congrArg (fun i => some (some (V.int i))) hf2, (face : Int), rfl, z, rfl, by omega, ?_⟩
    have sl : ∀ σ : L2.St, σ = [some (.str z), some (.int (face : Int)), some (.str name), none] → _ := fun σ _ => trivial
    refine ⟨.str (cutS z (some (face : Int)) none), rfl, cutS z (some (face : Int)) none, rfl, by rw [hname]; omega, _, 1, rfl, rfl, _, rfl, ?_⟩
    rw [hname]
    by_cases c1 : name.length < 1
    · refine iteP (decide_eq_true (by omega)) ?_
      refine qn ?_ H (Same.refl H)
      unfold isName
      rw [decide_eq_false (by omega)]; rfl
    · refine iteN (decide_eq_false (by omega)) ?_
      refine ⟨.str name, rfl, name, rfl, by omega, _, 4, rfl, rfl, _, rfl, ?_⟩
      by_cases c2 : 4 < name.length
      · refine iteP (decide_eq_true (by omega)) ?_
        refine qn ?_ H (Same.refl H)
        unfold isName
        rw [decide_eq_false (show ¬ name.length ≤ 4 by omega), Bool.and_false]; rfl
      · refine iteN (decide_eq_false (by omega)) ?_
        refine ⟨.str name, rfl, name, rfl, fun D nD => ?_⟩
        refine lc_it walk_str (fun i H' => H' D = some (.lst (((name.cps.toList.take i).filter fun c => !decide (c ∈ abc.cps.toList)).map fun c => V.str ⟨#[c]⟩)) ∧ Same H H') ⟨upd_same, same_upd nD⟩ (fun _ _ _ _ => trivial) (fun i x H1 H2 hi hI hY => ?_) (fun H' hI => ?_)
        · obtain ⟨e1, e2⟩ := hI
          obtain ⟨rfl, c, hc, rfl⟩ := hY
          have hc' : name.cps.toList[i]? = some c := by rw [Array.getElem?_toList]; exact hc
          refine ⟨rfl, .str ⟨#[c]⟩, rfl, c, abc, rfl, rfl, _, rfl, ?_⟩
          by_cases m : c ∈ abc.cps.toList
          · refine iteN (by rw [decide_eq_true m]; rfl) ⟨?_, e2⟩
            rw [List.take_add_one, hc', List.filter_append, show (some c).toList = [c] from rfl, List.filter_cons_of_neg (by rw [decide_eq_true m]; decide), List.filter_nil, List.append_nil]
            exact e1
          · refine iteP (by rw [decide_eq_false m]; rfl) ⟨.str ⟨#[c]⟩, rfl, _, e1, ?_, ?_, same_new e2 nD⟩
            · rw [List.length_map]
              refine Nat.lt_of_le_of_lt (List.length_filter_le _ _) ?_
              rw [List.length_take]
              omega
            · rw [upd_same, List.take_add_one, hc', List.filter_append, show (some c).toList = [c] from rfl, List.filter_cons_of_pos (by rw [decide_eq_false m]; rfl), List.filter_nil, List.map_append]
              rfl
        · obtain ⟨e1, e2⟩ := hI
          have ea : name.cps.toList.take name.cps.size = name.cps.toList := List.take_of_length_le (by rw [Array.length_toList]; exact Nat.le_refl _)
          rw [ea] at e1
          generalize hodd : (name.cps.toList.filter fun c => !decide (c ∈ abc.cps.toList)) = odd at *
          have hoa : ∀ c ∈ odd, c < 128 := fun c hc => by
            rw [← hodd] at hc
            exact hnasc c (List.mem_filter.mp hc).1
          refine ⟨Nat.zero_le _, fun L nL => ?_⟩
          have S2 := e2.trans (same_upd (o := .lst []) nL)
          have eD : (upd H' L (.lst [])) D = some (.lst (odd.map fun c => V.str ⟨#[c]⟩)) := same_upd nL _ _ e1
          refine ⟨dSigns odd, .list [], .lst (.inl (.inl eD)) (signs_data odd), .lst (.inl (.inl upd_same)) .nil, signs_shaped hoa, by decide, _, rfl, ?_⟩
          rw [signs_nil]
          have e3 : isName name = odd.isEmpty := by
            unfold isName
            rw [decide_eq_true (show 1 ≤ name.length by omega), decide_eq_true (show name.length ≤ 4 by omega), ← hodd]
            show (true && List.all _ _) = _
            rw [Bool.true_and, filter_empty]
          cases ho : odd.isEmpty with
          | true =>
            refine iteN rfl ?_
            refine ⟨.str name, rfl, .int (face : Int), congrArg (fun i => some (some (V.int i))) hf2, (by show 2 ≤ sizeLine; decide), fun t nt => ?_⟩
            exact qy (by rw [e3]; exact ho) _ t (S2.trans (same_upd nt)) (S2.free nt) upd_same
          | false =>
            refine iteP rfl ?_
            exact qn (by rw [e3]; exact ho) _ S2
/-- _law_due(board, text): what reading it should tell -/
def spDue : Sp := fun vs H Q _ => ∃ (b : Addr) (bd : Bd) (text : Str), vs = [.ref b, .str text] ∧ H b = some (.tup bd.vals) ∧ bd.Ok 36 ∧ text.length ≤ 10000 ∧ Ascii text ∧
  (∀ i, badAt bd text = some i → ∀ H', Same H H' → Q (.int (i : Nat)) H') ∧
  (badAt bd text = none → ∀ H' t, Same H H' → H t = none → StandAt H' t (thingsIn (Txt.split text blank)) → Q (.ref t) H')
theorem ok_due {f fC fT : Addr} {fd fdC fdT : FuncData} (F : Fun K "_law_due" "_law_due" sDue f fd) (D__law_cells : Def P w K mg base 1 "_law_cells" ["board"] (spCells K) fC fdC) (D__law_thing : Def P w K mg base 1 "_law_thing" ["word"] spLThing fT fdT)
    (m_range : mg "range" = none) (m_len : mg "len" = none) (m_int : mg "int" = none) (m_tuple : mg "tuple" = none) : FnOk P w K mg base CX0 2 f fd ["board", "text"] spDue := by
  refine F.ok scDue (fun vs H Q E h => ?_) (fun cdv A outer s H vs Q E hr h => ?_)
  · obtain ⟨b, bd, text, rfl, _⟩ := h
    rfl
  · obtain ⟨b, bd, text, rfl, hB, ok, htl, asc, qb, qg⟩ := h
    have hw := high_le ok
    have hp := Bd.pos ok
    have hc36 := Bd.cells_le ok
    have hsl := Lot.split_le text
    have hasc : ∀ z ∈ Txt.split text blank, Ascii z := fun z hz c hc => asc c (split_mem text z hz c hc)
    have hsz : 30000 ≤ sizeLine := by decide
    have hcells : bd.cells = bd.high * bd.wide := rfl
    unfold badAt at qb qg
    generalize hws : Txt.split text blank = ws at *
    refine ⟨_, (pss_cons (ps_set (i := 2) scDue.nd rfl (by first | exact .inl rfl | exact .inr rfl) (pe_split (pv 1) pe_str))
      (pss_cons (ps_set (i := 3) scDue.nd rfl (by first | exact .inl rfl | exact .inr rfl) (pe_lst pa_nil))
      (pss_cons (ps_set (i := 4) scDue.nd rfl (by first | exact .inl rfl | exact .inr rfl) pe_int)
      (pss_cons (ps_for PassesOwn.never rfl (pi_range1 (by rfl) m_range (pa_cons (pe_call D__law_cells.ok (hr.mono (by decide)) (by rfl) D__law_cells.g D__law_cells.kp D__law_cells.b .nil pass0 (pa_cons (pv 0) pa_nil)) pa_nil)) (pg_name (i := 5) scDue.nd rfl (by first | exact .inl rfl | exact .inr rfl)) (C8.pss_cut (ps_set (i := 6) scDue.nd rfl (by first | exact .inl rfl | exact .inr rfl) (pe_and (pe_cmpR op_eq (pe_ix ix_tup (pv 0) pe_int (fun _ _ => rfl)) pe_str (nomark _)) (pe_and (pe_cmpR op_gt (pv 5) pe_int (nomark _)) (pe_one (pe_cmpR op_eq (pe_op op_mod (pv 5) (pe_ix ix_tup (pv 0) pe_int (fun _ _ => rfl))) pe_int (nomark _))))))
      (C8.pss_cut (ps_if (PW.pt (pw_and (pt_val (pv 6)) (pw_and1 (PW.pt (pw_or (pt_cmpR op_eq (pv 4) (pe_callB call_len_seq (by rfl) m_len PySem.boot_len (pa_cons (pv 2) pa_nil)) (nomark _)) (pw_or1 (pt_cmpR op_ne (pe_ix ix_list (pv 2) (pv 4) (fun _ _ => rfl)) pe_str (nomark _)))))))) (pss_one (ps_ret (pv 4))) pss_nil)
      (pss_cons (ps_set (i := 4) scDue.nd rfl (by first | exact .inl rfl | exact .inr rfl) (pe_op op_add (pv 4) (pe_callTy call_int1 (by rfl) m_int (by decide +kernel) (pa_cons (pv 6) pa_nil))))
      (C8.pss_cut (ps_if (PW.pt (pw_or (pt_cmpR op_eq (pv 4) (pe_callB call_len_seq (by rfl) m_len PySem.boot_len (pa_cons (pv 2) pa_nil)) (nomark _)) (pw_or1 (pt_cmpR op_isN (pe_call D__law_thing.ok (hr.mono (by decide)) (by rfl) D__law_thing.g D__law_thing.kp D__law_thing.b .nil pass0 (pa_cons (pe_ix ix_list (pv 2) (pv 4) (fun _ _ => rfl)) pa_nil)) pe_non (nomark _))))) (pss_one (ps_ret (pv 4))) pss_nil)
      (pss_cons (ps_expr (pe_bm PySem.F.plainAttrs_list PySem.F.slot_list_append PySem.F.type_list_append mt_append (pv 3) (by exact (pa_cons (pe_call D__law_thing.ok (hr.mono (by decide)) (by rfl) D__law_thing.g D__law_thing.kp D__law_thing.b .nil pass0 (pa_cons (pe_ix ix_list (pv 2) (pv 4) (fun _ _ => rfl)) pa_nil)) pa_nil))))
      (pss_one (ps_set (i := 4) scDue.nd rfl (by first | exact .inl rfl | exact .inr rfl) (pe_op op_add (pv 4) pe_int)))))))))
      (pss_one (ps_ret (pe_ifExp (pt_cmpR op_eq (pv 4) (pe_callB call_len_seq (by rfl) m_len PySem.boot_len (pa_cons (pv 2) pa_nil)) (nomark _)) (pe_callTy call_tuple_of (by rfl) m_tuple (by decide +kernel) (pa_cons (pv 3) pa_nil)) (pv 4)))))))), ?_⟩
    refine ⟨.str text, rfl, ⟨_, rfl⟩, text, blank, rfl, rfl, by decide +kernel, by omega, fun W nW => ?_⟩
    rw [hws]
    have S1 := same_upd (o := .lst (ws.map V.str)) nW
    have eW : (upd H W (.lst (ws.map V.str))) W = some (.lst (ws.map V.str)) := upd_same
    generalize (upd H W (.lst (ws.map V.str))) = H1 at *
    refine ⟨Nat.zero_le _, fun F nF => ?_⟩
    have nF0 : H F = none := S1.free nF
    have WF : W ≠ F := fun z => by rw [← z, eW] at nF; cases nF
    have eW2 : (upd H1 F (.lst [])) W = some (.lst (ws.map V.str)) := by rw [upd_ne WF]; exact eW
    have eF2 : (upd H1 F (.lst [])) F = some (.lst []) := upd_same
    have S2 := S1.trans (same_upd (o := .lst []) nF)
    generalize (upd H1 F (.lst [])) = H2 at *
    refine ⟨.ref b, rfl, b, bd, rfl, .inl (.inl (S2 _ _ hB)), ok, (bd.cells : Int), rfl, by omega, by omega, ?_⟩
    have a0 : ahead bd.wide 0 = 0 := ahead_zero _
    refine for_range (lo := 0) (n := ((bd.cells : Nat) : Int).toNat) (fun c σ H' => ∃ y5 y6 as, σ = [some (.ref b), some (.str text), some (.ref W), some (.ref F), some (.int ((ahead bd.wide c : Nat) : Int)), y5, y6] ∧ H' W = some (.lst (ws.map V.str)) ∧ H' F = some (.lst (as.map V.ref)) ∧ Things H' as (thingsIn (ws.take (ahead bd.wide c))) ∧ Good bd ws (ahead bd.wide c) ∧ as.length ≤ c ∧ Same H H')
      ⟨none, none, [], by rw [a0]; rfl, eW2, eF2, by rw [a0]; trivial, by rw [a0]; exact ⟨Nat.zero_le _, Nat.zero_le _, fun j z h => absurd h (Nat.not_lt_zero _)⟩, Nat.le_refl _, S2⟩ (fun c σ H' hc hI => ?_) (fun σ H' hI => ?_)
    · obtain ⟨y5, y6, as, rfl, g1, g2, g3, g4, g5, g6⟩ := hI
      have hc' : c < bd.cells := by omega
      have hed := Bd.edge_is ok hc'
      have hpl : pos bd.wide c < dueMany bd := pos_lt hp.2 (by rw [← hcells]; exact hc')
      have hB2 : SqT K H' b bd.vals := .inl (.inl (g6 _ _ hB))
      -- edge
      refine ⟨fun σ2 H3 => σ2 = [some (.ref b), some (.str text), some (.ref W), some (.ref F), some (.int ((ahead bd.wide c : Nat) : Int)), some (.int (0 + (c : Int))), some (.bl (edgeN bd.wide c))] ∧ H' = H3, ?_, ?_⟩
      · have fin : ∀ k : Bool, k = edgeN bd.wide c → ([some (.ref b), some (.str text), some (.ref W), some (.ref F), some (.int ((ahead bd.wide c : Nat) : Int)), some (.int (0 + (c : Int))), some (.bl k)] : L2.St) = [some (.ref b), some (.str text), some (.ref W), some (.ref F), some (.int ((ahead bd.wide c : Nat) : Int)), some (.int (0 + (c : Int))), some (.bl (edgeN bd.wide c))] := fun k e => by rw [e]
        cases bd with
        | row n =>
          exact ⟨.ref b, rfl, b, _, 0, _, rfl, rfl, hB2, atI_nat (j := 0) rfl, rfl, _, rfl, iteN (by decide +kernel) ⟨fin false (by rw [← hed]; rfl), rfl⟩⟩
        | ring n =>
          exact ⟨.ref b, rfl, b, _, 0, _, rfl, rfl, hB2, atI_nat (j := 0) rfl, rfl, _, rfl, iteN (by decide +kernel) ⟨fin false (by rw [← hed]; rfl), rfl⟩⟩
        | floor h w =>
          refine ⟨.ref b, rfl, b, _, 0, _, rfl, rfl, hB2, atI_nat (j := 0) rfl, rfl, _, rfl, iteP (by decide +kernel) ?_⟩
          refine ⟨.int (0 + (c : Int)), rfl, 0 + (c : Int), 0, rfl, rfl, _, rfl, ite2 (fun e => ?_) (fun e => ?_)⟩
          · have c0 : 0 < c := by have := of_decide_eq_true e; omega
            refine ⟨.int (0 + (c : Int)), rfl, .ref b, rfl, b, _, 2, .int w, rfl, rfl, hB2, atI_nat (j := 2) rfl, 0 + (c : Int), w, rfl, rfl, (by have : 1 ≤ w := hp.2; omega), rfl, ⟨fin _ ?_, rfl⟩⟩
            have em : (0 + (c : Int)) % (w : Int) = ((c % w : Nat) : Int) := by rw [Int.zero_add, Int.natCast_emod]
            show decide (V.int ((0 + (c : Int)) % (w : Int)) = V.int 0) = (decide (0 < c) && decide (c % w = 0))
            rw [em, decide_eq_true c0, Bool.true_and]
            by_cases hm : c % w = 0
            · rw [hm]; rfl
            · rw [decide_eq_false hm, decide_eq_false fun x => hm (by have := V.int.inj x; omega)]
          · refine ⟨fin false ?_, rfl⟩
            have c0 : ¬ 0 < c := fun h => e (decide_eq_true (by omega))
            show false = (decide (0 < c) && _)
            rw [decide_eq_false c0, Bool.false_and]
      · rintro σ2 H3 ⟨rfl, rfl⟩
        -- if edge and (at == len(words) or words[at] != '/')
        refine ⟨fun σ2 H3 => σ2 = [some (.ref b), some (.str text), some (.ref W), some (.ref F), some (.int ((ahead bd.wide c : Nat) : Int)), some (.int (0 + (c : Int))), some (.bl (edgeN bd.wide c))] ∧ H' = H3 ∧ (edgeN bd.wide c = true → ws[ahead bd.wide c]? = some slash), ?_, ?_⟩
        · refine ⟨.bl (edgeN bd.wide c), rfl, _, rfl, ?_⟩
          cases he : edgeN bd.wide c with
          | false => exact iteF ⟨by first | rfl | rw [he], rfl, fun h => by cases h⟩
          | true =>
            obtain ⟨ep1, ep2, ep3⟩ := edge_pos hp.2 he
            have eah : ahead bd.wide c = pos bd.wide c - 1 := by unfold ahead; rw [he, if_pos rfl]
            refine iteT ?_
            refine ⟨.int ((ahead bd.wide c : Nat) : Int), rfl, .ref W, rfl, W, _, rfl, .inl (.inl (.inl g1)), rfl, _, rfl, ite2 (fun e => ?_) (fun e => ?_)⟩
            · have e1 := V.int.inj (of_decide_eq_true e)
              rw [List.length_map] at e1
              have e2 : ahead bd.wide c = ws.length := by omega
              refine ⟨.int ((ahead bd.wide c : Nat) : Int), rfl, ?_⟩
              rw [e2] at g4
              rw [e2]
              exact qb _ (g4.lacks (by omega)) _ g6
            · have hne : ahead bd.wide c ≠ ws.length := fun h => e (decide_eq_true (by rw [List.length_map, h]))
              have hlt : ahead bd.wide c < ws.length := by have := g4.1; omega
              obtain ⟨z, hz⟩ : ∃ z, ws[ahead bd.wide c]? = some z := ⟨_, List.getElem?_eq_getElem hlt⟩
              refine ⟨.ref W, rfl, .int ((ahead bd.wide c : Nat) : Int), rfl, W, _, ((ahead bd.wide c : Nat) : Int), .str z, rfl, rfl, .inl (.inl g1), atI_nat (by rw [List.getElem?_map, hz]; rfl), rfl, _, rfl, ?_⟩
              by_cases hs : z = slash
              · subst hs
                exact iteN (by decide +kernel) ⟨by first | rfl | rw [he], rfl, fun _ => hz⟩
              · refine iteP ?_ ?_
                · show (!decide (V.str z = V.str slash)) = true
                  rw [decide_eq_false fun x => hs (V.str.inj x)]; rfl
                · refine ⟨.int ((ahead bd.wide c : Nat) : Int), rfl, ?_⟩
                  refine qb _ (g4.bad hz (.inr ?_)) _ g6
                  unfold isDue
                  rw [eah, ep2, if_pos rfl]
                  exact decide_eq_false hs
        · rintro σ2 H3 ⟨rfl, rfl, hsl2⟩
          -- at = at + int(edge)
          refine ⟨.int ((ahead bd.wide c : Nat) : Int), rfl, .bl (edgeN bd.wide c), rfl, .inr ⟨_, rfl, _, _, rfl, rfl, ?_⟩⟩
          have eat : ((ahead bd.wide c : Nat) : Int) + (if edgeN bd.wide c = true then 1 else 0) = ((pos bd.wide c : Nat) : Int) := by
            unfold ahead
            cases he : edgeN bd.wide c with
            | false => rw [if_neg (by decide), if_neg (by decide)]; simp
            | true =>
              have := (edge_pos hp.2 he).1
              rw [if_pos rfl, if_pos rfl]
              omega
          have gpos : Good bd ws (pos bd.wide c) := by
            cases he : edgeN bd.wide c with
            | false =>
              have : ahead bd.wide c = pos bd.wide c := by unfold ahead; rw [he, if_neg (by decide)]; rfl
              rw [← this]; exact g4
            | true =>
              obtain ⟨ep1, ep2, ep3⟩ := edge_pos hp.2 he
              have eah : ahead bd.wide c = pos bd.wide c - 1 := by unfold ahead; rw [he, if_pos rfl]
              have := g4.next (by omega) (hsl2 he) (by
                unfold isDue
                rw [eah, ep2, if_pos rfl]
                exact decide_eq_true rfl)
              rw [eah, Nat.sub_add_cancel ep1] at this
              exact this
          have tpos : Things H' as (thingsIn (ws.take (pos bd.wide c))) := by
            cases he : edgeN bd.wide c with
            | false =>
              have : ahead bd.wide c = pos bd.wide c := by unfold ahead; rw [he, if_neg (by decide)]; rfl
              rw [← this]; exact g3
            | true =>
              obtain ⟨ep1, ep2, ep3⟩ := edge_pos hp.2 he
              have eah : ahead bd.wide c + 1 = pos bd.wide c := by unfold ahead; rw [he, if_pos rfl]; omega
              rw [← eah, things_slash (hsl2 he)]
              exact g3
          have pm := pos_mod (c := c) hp.2
          have cm := Nat.mod_lt c hp.2
          -- if at == len(words) or _law_thing(words[at]) is None
          refine ⟨fun σ2 H3 => σ2 = [some (.ref b), some (.str text), some (.ref W), some (.ref F), some (.int ((pos bd.wide c : Nat) : Int)), some (.int (0 + (c : Int))), some (.bl (edgeN bd.wide c))] ∧ Same H' H3 ∧ ∃ z, ws[pos bd.wide c]? = some z ∧ isName (thingOf z).1 = true, ?_, ?_⟩
          · have sl4 : some (some (V.int (((ahead bd.wide c : Nat) : Int) + (if edgeN bd.wide c = true then 1 else 0)))) = some (some (V.int ((pos bd.wide c : Nat) : Int))) := by rw [eat]
            refine ⟨.int ((pos bd.wide c : Nat) : Int), sl4, .ref W, rfl, W, _, rfl, .inl (.inl (.inl g1)), rfl, _, rfl, ite2 (fun e => ?_) (fun e => ?_)⟩
            · have e1 := V.int.inj (of_decide_eq_true e)
              rw [List.length_map] at e1
              have e2 : pos bd.wide c = ws.length := by omega
              refine ⟨.int ((pos bd.wide c : Nat) : Int), sl4, ?_⟩
              rw [e2] at gpos
              rw [e2]
              exact qb _ (gpos.lacks (by omega)) _ g6
            · have hne : pos bd.wide c ≠ ws.length := fun h => e (decide_eq_true (by rw [List.length_map, h]))
              have hlt : pos bd.wide c < ws.length := by have := gpos.1; omega
              obtain ⟨z, hz⟩ : ∃ z, ws[pos bd.wide c]? = some z := ⟨_, List.getElem?_eq_getElem hlt⟩
              have hzm := List.mem_of_getElem? hz
              have hzl := hsl.1 z hzm
              have hdue : isDue z (pos bd.wide c) bd.wide = isName (thingOf z).1 := by
                unfold isDue
                rw [if_neg (by rw [pm]; omega)]
              refine ⟨.ref W, rfl, .int ((pos bd.wide c : Nat) : Int), sl4, W, _, ((pos bd.wide c : Nat) : Int), .str z, rfl, rfl, .inl (.inl g1), atI_nat (by rw [List.getElem?_map, hz]; rfl), ?_⟩
              refine ⟨z, rfl, by omega, hasc z hzm, fun hn H3 t s3 nt ht => ?_, fun hn H3 s3 => ?_⟩
              · refine ⟨rfl, _, rfl, iteN (decide_eq_false fun x => V.noConfusion x) ⟨?_, s3, z, hz, hn⟩⟩
                exact congrArg (fun i => [some (V.ref b), some (V.str text), some (V.ref W), some (V.ref F), some (V.int i), some (V.int (0 + (c : Int))), some (V.bl (edgeN bd.wide c))]) eat
              · refine ⟨rfl, _, rfl, iteP (by decide) ?_⟩
                refine ⟨.int ((pos bd.wide c : Nat) : Int), sl4, ?_⟩
                exact qb _ (gpos.bad hz (.inr (by rw [hdue]; exact hn))) _ (g6.trans s3)
          · rintro σ2 H3 ⟨rfl, s3, z, hz, hn⟩
            have hzm := List.mem_of_getElem? hz
            have hzl := hsl.1 z hzm
            have hdue : isDue z (pos bd.wide c) bd.wide = isName (thingOf z).1 := by
              unfold isDue
              rw [if_neg (by rw [pm]; omega)]
            -- found.append(_law_thing(words[at]))
            refine ⟨.ref F, rfl, .inl ⟨rfl, _, .inl (.inl (s3 _ _ g2))⟩, .ref W, rfl, .int ((pos bd.wide c : Nat) : Int), rfl, W, _, ((pos bd.wide c : Nat) : Int), .str z, rfl, rfl, .inl (.inl (s3 _ _ g1)), atI_nat (by rw [List.getElem?_map, hz]; rfl), ?_⟩
            refine ⟨z, rfl, by omega, hasc z hzm, fun _ H4 t s4 nt ht => ?_, fun h => by rw [hn] at h; cases h⟩
            have S4 := s3.trans s4
            refine ⟨F, _, _, rfl, rfl, S4 _ _ g2, ?_, ?_⟩
            · rw [List.length_map]
              exact Nat.lt_of_lt_of_le (show as.length < 30000 by omega) hsz
            · refine ⟨.int ((pos bd.wide c : Nat) : Int), rfl, _, _, rfl, rfl, ?_⟩
              have eas : ahead bd.wide (c + 1) = pos bd.wide c + 1 := ahead_succ hp.2
              refine ⟨some (.int (0 + (c : Int))), some (.bl (edgeN bd.wide c)), as ++ [t], ?_, ?_, ?_, ?_, ?_, ?_, ?_⟩
              · rw [eas]; rfl
              · rw [upd_ne WF]; exact S4 _ _ g1
              · rw [upd_same, List.map_append]; rfl
              · rw [eas, things_more hz (name_slash hn)]
                exact (Things.snoc ht (tpos.same S4)).but But.upd ⟨_, S4 _ _ g2⟩
              · rw [eas]
                exact gpos.next hpl hz (by rw [hdue]; exact hn)
              · rw [List.length_append]
                exact Nat.succ_le_succ g5
              · exact same_new (g6.trans S4) nF0
    · obtain ⟨y5, y6, as, rfl, g1, g2, g3, g4, g5, g6⟩ := hI
      have en : (((bd.cells : Nat) : Int)).toNat = bd.cells := Int.toNat_natCast _
      have eend : ahead bd.wide bd.cells = dueMany bd := ahead_end hp.2 hp.1
      rw [en] at g3 g4
      rw [eend] at g3 g4
      have sl4 : some (some (V.int ((ahead bd.wide (((bd.cells : Nat) : Int)).toNat : Nat) : Int))) = some (some (V.int ((dueMany bd : Nat) : Int))) := by rw [en, eend]
      refine ⟨.int ((dueMany bd : Nat) : Int), sl4, .ref W, rfl, W, _, rfl, .inl (.inl (.inl g1)), rfl, _, rfl, ite2 (fun e => ?_) (fun e => ?_)⟩
      · have e1 := V.int.inj (of_decide_eq_true e)
        rw [List.length_map] at e1
        have e2 : dueMany bd = ws.length := by omega
        refine ⟨.ref F, rfl, F, _, rfl, .inl ⟨.inl (.inl g2), fun t nt => ?_⟩⟩
        rw [e2] at g4
        rw [e2, List.take_length] at g3
        exact qg (g4.whole e2.symm) _ t (g6.trans (same_upd nt)) (g6.free nt) ⟨as, upd_same, g3.same (same_upd nt)⟩
      · have hne : dueMany bd ≠ ws.length := fun h => e (decide_eq_true (by rw [List.length_map, h]))
        have hlt : dueMany bd < ws.length := by have := g4.1; omega
        obtain ⟨z, hz⟩ : ∃ z, ws[dueMany bd]? = some z := ⟨_, List.getElem?_eq_getElem hlt⟩
        refine ⟨.int ((dueMany bd : Nat) : Int), sl4, ?_⟩
        exact qb _ (g4.bad hz (.inl (Nat.le_refl _))) _ g6
end
end L_k58

namespace L_k58
open PySem PySem.Spec PyProof.Rows L2 Lot
abbrev sTold : Stmt := topS 18
theorem scTold : FnScope ["board", "text", "found", "e"] ["board", "text"] (defScope sTold) := ⟨rfl, rfl, rfl, by decide +kernel, rfl, by decide +kernel, by decide +kernel⟩
abbrev sSigns : Stmt := topS 19
theorem scSigns : FnScope ["found"] [] (defScope sSigns) := ⟨rfl, rfl, rfl, by decide +kernel, rfl, by decide +kernel, by decide +kernel⟩
section
variable {P : Program} {w : World} {K : PySem.W.Frag} {mg : Str → Option Value} {base : Heap}
theorem ok_told {f fR C fI cc cda : Addr} {fd fdR : FuncData} {st : Stmt} {qual : Str} {msg : Expr} (F : Fun K "_law_told" "_law_told" sTold f fd) (R : DefX P w K mg base 4 "read_standing" ["board", "text"] (spRead C) fR fdR)
    (T : SupTxt P K st qual "at" msg C fI cc cda) (gN : mg "NoStanding" = some (.ref C)) : FnOk P w K mg base CX0 5 f fd ["board", "text"] spDue := by
  refine F.ok scTold (fun vs H Q E h => ?_) (fun cdv A outer s H vs Q E hr h => ?_)
  · obtain ⟨b, bd, text, rfl, _⟩ := h
    rfl
  · obtain ⟨b, bd, text, rfl, hB, ok, htl, asc, qb, qg⟩ := h
    refine ⟨_, pss_cons (ps_set (i := 2) scTold.nd rfl (.inl rfl) pe_non)
      (pss_cons (ps_try_as (i := 3) (tb := fun W => tAsg (tCallS (spRead C) (WE W) (tCons (tVar 0) (tCons (tVar 1) tNil))) (gName 2)) (ts := fun a cls d => tAsg (tByFld C "at" a cls d (tVar 3)) (gName 2)) (Wout := fun _ _ _ _ => False) rfl rfl scTold.nd rfl rfl ⟨rfl, by decide, .inl gN⟩ takes0
        (fun W pn xe tk _ => pss_one (ps_set (i := 2) scTold.nd rfl (.inl rfl) (by exact (pe_callS R.ok hr rfl R.g R.kp R.b (fun σ => passAt tk σ) (by exact (pa_cons (pv 0) (pa_cons (pv 1) pa_nil)))))))
        (fun a oe cls d pn hz hf => pss_one (ps_set (i := 2) scTold.nd rfl (.inl rfl) (by exact (pe_byFld T hz hf (pv 3))))))
      (pss_one (ps_ret (pv 2)))), ?_⟩
    refine ⟨.ref b, rfl, .str text, rfl, b, bd, text, rfl, hB, ok, htl, fun i hi H' d S hd => ?_, fun hn H' t S nt hst => ?_⟩
    · refine ⟨true, T.te, fun _ a0 _ => ?_, fun q => Bool.noConfusion q⟩
      refine ⟨.ref a0, rfl, rfl, rfl, d, _, rfl, upd_same, ?_⟩
      exact ⟨.int (i : Nat), rfl, qb i hi _ (S.trans (same_upd hd))⟩
    · exact ⟨.ref t, rfl, qg hn H' t S nt hst⟩
/-- _law_signs(): a list of texts of one sign, all below 128 -/
def spSigns : Sp := fun vs H Q _ => vs = [] ∧ ∀ H' l (cs : List Nat), Same H H' → H l = none → H' l = some (.lst (cs.map fun c => V.str ⟨#[c]⟩)) → cs.length ≤ 200 → (∀ c ∈ cs, c < 128) → Q (.ref l) H'
theorem ok_signs {f : Addr} {fd : FuncData} (F : Fun K "_law_signs" "_law_signs" sSigns f fd) (m_list : mg "list" = none) : FnOk P w K mg base CX0 1 f fd [] spSigns := by
  refine F.ok scSigns (fun vs H Q E h => ?_) (fun cdv A outer s H vs Q E hr h => ?_)
  · obtain ⟨rfl, _⟩ := h
    rfl
  · obtain ⟨rfl, q⟩ := h
    refine ⟨_, (pss_cons (ps_set (i := 0) scSigns.nd rfl (by first | exact .inl rfl | exact .inr rfl) pe_str)
      (pss_one (ps_ret (pe_callTy (call_list_text rfl) (by rfl) m_list (by decide +kernel) (pa_cons (pe_op op_add_str (pv 0) pe_str) pa_nil))))), ?_⟩
    refine ⟨.str _, rfl, _, _, rfl, rfl, by decide +kernel, _, rfl, by decide +kernel, fun l nl => ?_⟩
    refine q _ l _ (same_upd nl) nl upd_same ?_ ?_
    · decide +kernel
    · decide +kernel
end
end L_k58

namespace L_k58
open PySem PySem.Spec PyProof.Rows L2 Lot
abbrev sLaw : Stmt := topS 20
theorem scLaw : FnScope ["script", "k", "pot", "board", "words", "cell", "at", "sign", "word", "text"] ["script"] (defScope sLaw) := ⟨rfl, rfl, rfl, by decide +kernel, rfl, by decide +kernel, by decide +kernel⟩
section
variable {P : Program} {w : World} {K : PySem.W.Frag} {mg : Str → Option Value} {base : Heap}
def spLaw (K : PySem.W.Frag) : Sp := fun vs H Q _ => ∃ (a : Addr) (ns : List Int), vs = [.ref a] ∧ SqL K H a (ns.map V.int) ∧ ns.length ≤ 63 ∧ ∀ H', Q (.bl true) H'
def WOk (z : Str) : Prop := z.length ≤ 10 ∧ AscS z
theorem rep_lem (k : Bool) : ∃ sl : List Str, (List.replicate (if k = true then (1 : Int) else 0).toNat [V.str slash]).flatten = sl.map V.str ∧ sl.length ≤ 1 ∧ ∀ z ∈ sl, WOk z := by
  cases k with
  | false => exact ⟨[], rfl, by decide, fun z hz => nomatch hz⟩
  | true => exact ⟨[slash], rfl, by decide, fun z hz => by
      rw [List.mem_singleton.mp hz]
      exact ⟨by decide +kernel, by unfold AscS; decide +kernel⟩⟩
theorem face_lem {r : Nat} (h : (r : Int) < 2) : ∃ z : Str, atI ([.str (Str.ofString ""), .str (Str.ofString "-")] : List V) (r : Int) = some (.str z) ∧ z.length ≤ 1 ∧ AscS z := by
  have h2 : r = 0 ∨ r = 1 := by omega
  rcases h2 with rfl | rfl
  · exact ⟨Str.ofString "", atI_nat (j := 0) rfl, by decide +kernel, by unfold AscS; decide +kernel⟩
  · exact ⟨Str.ofString "-", atI_nat (j := 1) rfl, by decide +kernel, by unfold AscS; decide +kernel⟩
theorem ok_law {fpot fdip fcells fsigns ftold fdue f : Addr} {dpot ddip dcells dsigns dtold ddue fd : FuncData} (F : Fun K "law" "law" sLaw f fd)
    (D__law_pot : Def P w K mg base 1 "_law_pot" ["script", "at"] (spPot K) fpot dpot) (D__law_dip : Def P w K mg base 1 "_law_dip" ["pot", "many"] spDip fdip ddip)
    (D__law_cells : Def P w K mg base 1 "_law_cells" ["board"] (spCells K) fcells dcells) (D__law_signs : Def P w K mg base 1 "_law_signs" [] spSigns fsigns dsigns)
    (D__law_told : Def P w K mg base 5 "_law_told" ["board", "text"] spDue ftold dtold) (D__law_due : Def P w K mg base 2 "_law_due" ["board", "text"] spDue fdue ddue)
    (m_range : mg "range" = none) (m_max : mg "max" = none) (m_min : mg "min" = none) (m_len : mg "len" = none) (m_repr : mg "repr" = none) (m_int : mg "int" = none) :
    GRun P w K mg base CX0 6 f fd ["script"] (spLaw K) := by
  refine g_ok F scLaw (fun vs H Q E h => ?_) (fun cdv A outer s H vs Q E hG hr h => ?_)
  · obtain ⟨a, ns, rfl, _⟩ := h
    rfl
  · obtain ⟨a, ns, rfl, hS, hl, q⟩ := h
    refine ⟨_, (pss_cons (ps_for PassesOwn.never rfl (pi_range1 (by rfl) m_range (pa_cons (pe_callB (call_max2 rfl) (by rfl) m_max (by decide +kernel) (pa_cons pe_int (pa_cons (pe_callB (call_min2 rfl) (by rfl) m_min (by decide +kernel) (pa_cons pe_int (pa_cons (pe_callB call_len_seq (by rfl) m_len PySem.boot_len (pa_cons (pv 0) pa_nil)) pa_nil))) pa_nil))) pa_nil)) (pg_name (i := 1) scLaw.nd rfl (by first | exact .inl rfl | exact .inr rfl)) (pss_cons (ps_set (i := 2) scLaw.nd rfl (by first | exact .inl rfl | exact .inr rfl) (pe_call D__law_pot.ok (hr.mono (by decide)) (by rfl) D__law_pot.g D__law_pot.kp D__law_pot.b .nil pass0 (pa_cons (pv 0) (pa_cons (pv 1) pa_nil))))
      (pss_cons (ps_set (i := 3) scLaw.nd rfl (by first | exact .inl rfl | exact .inr rfl) (pe_tup (pa_cons pe_str (pa_cons (pe_op op_add pe_int (pe_call D__law_dip.ok (hr.mono (by decide)) (by rfl) D__law_dip.g D__law_dip.kp D__law_dip.b .nil pass0 (pa_cons (pv 2) (pa_cons pe_int pa_nil)))) pa_nil))))
      (C8.pss_cut (ps_if (pt_cmpR op_eq (pe_call D__law_dip.ok (hr.mono (by decide)) (by rfl) D__law_dip.g D__law_dip.kp D__law_dip.b .nil pass0 (pa_cons (pv 2) (pa_cons pe_int pa_nil))) pe_int (nomark _)) (pss_one (ps_set (i := 3) scLaw.nd rfl (by first | exact .inl rfl | exact .inr rfl) (pe_tup (pa_cons pe_str (pa_cons (pe_op op_add pe_int (pe_call D__law_dip.ok (hr.mono (by decide)) (by rfl) D__law_dip.g D__law_dip.kp D__law_dip.b .nil pass0 (pa_cons (pv 2) (pa_cons pe_int pa_nil)))) (pa_cons (pe_op op_add pe_int (pe_call D__law_dip.ok (hr.mono (by decide)) (by rfl) D__law_dip.g D__law_dip.kp D__law_dip.b .nil pass0 (pa_cons (pv 2) (pa_cons pe_int pa_nil)))) pa_nil)))))) pss_nil)
      (pss_cons (ps_set (i := 4) scLaw.nd rfl (by first | exact .inl rfl | exact .inr rfl) (pe_lst pa_nil))
      (pss_cons (ps_for PassesOwn.never rfl (pi_range1 (by rfl) m_range (pa_cons (pe_call D__law_cells.ok (hr.mono (by decide)) (by rfl) D__law_cells.g D__law_cells.kp D__law_cells.b .nil pass0 (pa_cons (pv 3) pa_nil)) pa_nil)) (pg_name (i := 5) scLaw.nd rfl (by first | exact .inl rfl | exact .inr rfl)) (pss_cons (ps_set (i := 4) scLaw.nd rfl (by first | exact .inl rfl | exact .inr rfl) (pe_op op_cat (pv 4) (pe_op op_rep (pe_lst (pa_cons pe_str pa_nil)) (pe_callTy call_int1 (by rfl) m_int (by decide +kernel) (pa_cons (pe_and (pe_cmpR op_eq (pe_ix ix_tup (pv 3) pe_int (fun _ _ => rfl)) pe_str (nomark _)) (pe_and (pe_cmpR op_gt (pv 5) pe_int (nomark _)) (pe_one (pe_cmpR op_eq (pe_op op_mod (pv 5) (pe_ix ix_tup (pv 3) (pe_un un_neg pe_int) (fun _ _ => rfl))) pe_int (nomark _))))) pa_nil)))))
      (pss_one (ps_expr (pe_bm PySem.F.plainAttrs_list PySem.F.slot_list_append PySem.F.type_list_append mt_append (pv 4) (by exact (pa_cons (pe_op op_add_str (pe_ix ix_list (pe_lst (pa_cons pe_str (pa_cons pe_str pa_nil))) (pe_call D__law_dip.ok (hr.mono (by decide)) (by rfl) D__law_dip.g D__law_dip.kp D__law_dip.b .nil pass0 (pa_cons (pv 2) (pa_cons pe_int pa_nil))) (fun _ _ => rfl)) (pe_slice sl_str pe_str po_none (po_some (pe_op op_add pe_int (pe_call D__law_dip.ok (hr.mono (by decide)) (by rfl) D__law_dip.g D__law_dip.kp D__law_dip.b .nil pass0 (pa_cons (pv 2) (pa_cons pe_int pa_nil))))))) pa_nil)))))))
      (pss_cons (ps_set (i := 6) scLaw.nd rfl (by first | exact .inl rfl | exact .inr rfl) (pe_call D__law_dip.ok (hr.mono (by decide)) (by rfl) D__law_dip.g D__law_dip.kp D__law_dip.b .nil pass0 (pa_cons (pv 2) (pa_cons (pe_callB call_len_seq (by rfl) m_len PySem.boot_len (pa_cons (pv 4) pa_nil)) pa_nil))))
      (pss_one (ps_for PassesOwn.never rfl (pi_list (pe_call0 D__law_signs.ok (hr.mono (by decide)) (by rfl) D__law_signs.g D__law_signs.kp D__law_signs.b .nil pass0)) (pg_name (i := 7) scLaw.nd rfl (by first | exact .inl rfl | exact .inr rfl)) (pss_one (ps_for PassesOwn.never rfl (pi_list (pe_lst (pa_cons (pv 7) (pa_cons (pe_op op_add_str (pv 7) (pe_ix ix_list (pv 4) (pv 6) (fun _ _ => rfl))) (pa_cons (pe_op op_add_str (pe_op op_add_str (pe_slice sl_str (pe_ix ix_list (pv 4) (pv 6) (fun _ _ => rfl)) po_none (po_some pe_int)) (pv 7)) (pe_slice sl_str (pe_ix ix_list (pv 4) (pv 6) (fun _ _ => rfl)) (po_some pe_int) po_none)) (pa_cons (pe_op op_add_str (pe_ix ix_list (pv 4) (pv 6) (fun _ _ => rfl)) (pv 7)) pa_nil)))))) (pg_name (i := 8) scLaw.nd rfl (by first | exact .inl rfl | exact .inr rfl)) (pss_cons (ps_set (i := 9) scLaw.nd rfl (by first | exact .inl rfl | exact .inr rfl) (pe_join pe_str (pe_op op_cat (pe_op op_cat (pe_slice sl_list (pv 4) po_none (po_some (pv 6))) (pe_lst (pa_cons (pv 8) pa_nil))) (pe_slice sl_list (pv 4) (po_some (pe_op op_add (pv 6) pe_int)) po_none))))
      (pss_one (ps_if (pt_cmpR op_ne (pe_callB (call_reprV hG hr) (by rfl) m_repr (by decide +kernel) (pa_cons (pe_call D__law_told.ok (hr.mono (by decide)) (by rfl) D__law_told.g D__law_told.kp D__law_told.b .nil pass0 (pa_cons (pv 3) (pa_cons (pv 9) pa_nil))) pa_nil)) (pe_callB (call_reprV hG hr) (by rfl) m_repr (by decide +kernel) (pa_cons (pe_call D__law_due.ok (hr.mono (by decide)) (by rfl) D__law_due.g D__law_due.kp D__law_due.b .nil pass0 (pa_cons (pv 3) (pa_cons (pv 9) pa_nil))) pa_nil)) (nomark _)) (pss_one (ps_ret pe_bl)) pss_nil))))))))))))))
      (pss_one (ps_ret pe_bl))), ?_⟩
    have hsz : 30000 ≤ sizeLine := by decide
    refine ⟨.ref a, rfl, a, _, rfl, .inl hS, 3, _, rfl, 1, _, rfl, _, rfl, by split <;> omega, by split <;> split <;> omega, ?_⟩
    generalize hn : (if (if ((ns.map V.int).length : Int) < 3 then ((ns.map V.int).length : Int) else 3) > 1 then (if ((ns.map V.int).length : Int) < 3 then ((ns.map V.int).length : Int) else 3) else 1) = n
    have n5 : n ≤ 3 := by
      rw [← hn]
      split <;> split <;> omega
    refine for_range (lo := 0) (n := n.toNat) (fun i σ H' => ∃ y1 y2 y3 y4 y5 y6 y7 y8 y9, σ = [some (.ref a), y1, y2, y3, y4, y5, y6, y7, y8, y9] ∧ Same H H') ⟨none, none, none, none, none, none, none, none, none, rfl, Same.refl H⟩ (fun i σ H' hi hI => ?_) (fun σ H' hI => q _)
    obtain ⟨y1, y2, y3, y4, y5, y6, y7, y8, y9, rfl, S0⟩ := hI
    refine ⟨.ref a, rfl, .int (0 + (i : Int)), rfl, a, ns, i, by rw [Int.zero_add]; rfl, S0.seq hS, by omega, fun p ws0 np hw0 => ?_⟩
    have P1 : PotAt (upd H' p (.lst ws0)) p 0 := PotAt.upd hw0
    have Hp0 : H p = none := S0.free np
    have S1 := S0.trans (same_upd (o := .lst ws0) np)
    generalize (upd H' p (.lst ws0)) = H1 at *
    -- board = ('row', 3 + _law_dip(pot, 4))
    refine ⟨.ref p, rfl, p, 4, 0, rfl, by decide, by decide, P1, by decide, fun r1 ws1 hr1 hw1 => ?_⟩
    have P2 : PotAt (upd H1 p (.lst ws1)) p 1 := PotAt.upd hw1
    have B2 : But p H1 (upd H1 p (.lst ws1)) := But.upd
    generalize (upd H1 p (.lst ws1)) = H2 at *
    refine ⟨3, r1, rfl, rfl, (by show 2 ≤ sizeLine; decide), fun b1 nb1 => ?_⟩
    have b1p : b1 ≠ p := P2.ne nb1
    have eb1 : (upd H2 b1 (.tup [.str "row", .int (3 + (r1 : Int))])) b1 = some (.tup (Bd.row (3 + r1)).vals) := upd_same
    have P3 := P2.same (same_upd (o := .tup [.str "row", .int (3 + (r1 : Int))]) nb1)
    have B3 := B2.trans (But.of_same (p := p) (same_upd (o := .tup [.str "row", .int (3 + (r1 : Int))]) nb1))
    generalize (upd H2 b1 (.tup [.str "row", .int (3 + (r1 : Int))])) = H3 at *
    -- if _law_dip(pot, 2) == 0
    refine ⟨fun σ2 H4 => ∃ (b : Addr) (bd : Bd), σ2 = [some (.ref a), some (.int (0 + (i : Int))), some (.ref p), some (.ref b), y4, y5, y6, y7, y8, y9] ∧ H4 b = some (.tup bd.vals) ∧ b ≠ p ∧ bd.Ok 36 ∧ bd.cells ≤ 6 ∧ PotAt H4 p 4 ∧ But p H1 H4, ?_, ?_⟩
    · refine ⟨.ref p, rfl, p, 2, 1, rfl, by decide, by decide, P3, by decide, fun r2 ws2 hr2 hw2 => ?_⟩
      have P4 : PotAt (upd H3 p (.lst ws2)) p 2 := PotAt.upd hw2
      have B4 : But p H3 (upd H3 p (.lst ws2)) := But.upd
      generalize (upd H3 p (.lst ws2)) = H4 at *
      refine ⟨rfl, _, rfl, ite2 (fun e => ?_) (fun e => ?_)⟩
      · refine ⟨.ref p, rfl, p, 3, 2, rfl, by decide, by decide, P4, by decide, fun r3 ws3 hr3 hw3 => ?_⟩
        have P5 : PotAt (upd H4 p (.lst ws3)) p 3 := PotAt.upd hw3
        have B5 : But p H4 (upd H4 p (.lst ws3)) := But.upd
        generalize (upd H4 p (.lst ws3)) = H5 at *
        refine ⟨1, r3, rfl, rfl, .ref p, rfl, p, 2, 3, rfl, by decide, by decide, P5, by decide, fun r4 ws4 hr4 hw4 => ?_⟩
        have P6 : PotAt (upd H5 p (.lst ws4)) p 4 := PotAt.upd hw4
        have B6 : But p H5 (upd H5 p (.lst ws4)) := But.upd
        generalize (upd H5 p (.lst ws4)) = H6 at *
        refine ⟨1, r4, rfl, rfl, (by show 3 ≤ sizeLine; decide), fun b2 nb2 => ?_⟩
        have hm : (1 + r3) * (1 + r4) ≤ 3 * 2 := Nat.mul_le_mul (by omega) (by omega)
        refine ⟨b2, .floor (1 + r3) (1 + r4), rfl, upd_same, P6.ne nb2, ⟨by omega, by omega, by omega⟩, hm, P6.same (same_upd nb2), (((B3.trans B4).trans B5).trans B6).trans (But.of_same (same_upd nb2))⟩
      · refine ⟨b1, .row (3 + r1), rfl, B4 _ _ b1p eb1, b1p, ⟨by omega, by omega⟩, ?_, P4.mono (by decide), B3.trans B4⟩
        rw [show (Bd.row (3 + r1)).cells = 3 + r1 from Nat.one_mul _]
        omega
    · rintro σ2 H4 ⟨b, bd, rfl, eb, bp, ok, hc6, P4, B4⟩
      have S4 := same_but S1 Hp0 B4
      have hc := Bd.cells_le ok
      -- words = []
      refine ⟨Nat.zero_le _, fun W nW => ?_⟩
      have Wp : W ≠ p := P4.ne nW
      have eW : (upd H4 W (.lst [])) W = some (.lst []) := upd_same
      have P5 : PotAt (upd H4 W (.lst [])) p 4 := P4.same (same_upd nW)
      have B5 : But p H4 (upd H4 W (.lst [])) := But.of_same (same_upd nW)
      generalize (upd H4 W (.lst [])) = H5 at *
      refine ⟨.ref b, rfl, b, bd, rfl, .inl (.inl (B5 _ _ bp eb)), ok, (bd.cells : Int), rfl, by omega, by omega, ?_⟩
      refine for_range (lo := 0) (n := ((bd.cells : Nat) : Int).toNat) (fun c σ H6 => ∃ (y5 : Option V) (W : Addr) (ws : List Str), σ = [some (.ref a), some (.int (0 + (i : Int))), some (.ref p), some (.ref b), some (.ref W), y5, y6, y7, y8, y9] ∧ H6 W = some (.lst (ws.map V.str)) ∧ H4 W = none ∧ W ≠ p ∧ (∀ z ∈ ws, WOk z) ∧ ws.length ≤ 2 * c ∧ c ≤ ws.length ∧ PotAt H6 p (4 + 2 * c) ∧ But p H4 H6)
        ⟨y5, W, [], rfl, eW, nW, Wp, (fun z hz => nomatch hz), Nat.zero_le _, Nat.le_refl _, P5, B5⟩ (fun c σ H6 hc1 hI => ?_) (fun σ H6 hI => ?_)
      · obtain ⟨z5, W, ws, rfl, g1, g2, g3, g4, g5, g6, g7, g8⟩ := hI
        have hc' : c < bd.cells := by omega
        have hB : SqT K H6 b bd.vals := .inl (.inl (g8 _ _ bp eb))
        -- ['/'] * int(..)
        refine ⟨.ref W, rfl, (by show 1 ≤ sizeLine; decide), fun L nL => ?_⟩
        have LW : W ≠ L := fun z => by rw [← z, g1] at nL; cases nL
        have Lp : L ≠ p := g7.ne nL
        have eL : (upd H6 L (.lst [.str slash])) L = some (.lst [.str slash]) := upd_same
        have g1' : (upd H6 L (.lst [.str slash])) W = some (.lst (ws.map V.str)) := by rw [upd_ne LW]; exact g1
        have g7' : PotAt (upd H6 L (.lst [.str slash])) p (4 + 2 * c) := g7.same (same_upd nL)
        have g8' : But p H4 (upd H6 L (.lst [.str slash])) := g8.trans (But.of_same (same_upd nL))
        have hB' : SqT K (upd H6 L (.lst [.str slash])) b bd.vals := .inl (.inl (g8' _ _ bp eb))
        have LW2 : L ≠ W := Ne.symm LW
        have nL4 : H4 L = none := g8.free Lp nL
        generalize hH7 : (upd H6 L (.lst [.str slash])) = H7 at *
        cases bd with
        | row n =>
          refine ⟨.ref b, rfl, b, _, 0, _, rfl, rfl, hB', atI_nat (j := 0) rfl, rfl, _, rfl, iteN (by decide +kernel) ?_⟩
          refine .inr ⟨false, rfl, L, _, _, rfl, rfl, eL, ?_, ?_, ?_, fun R nR => ?_⟩
          · split <;> decide
          · split <;> decide
          · show 1 * (if false = true then (1 : Int) else 0).toNat ≤ sizeLine
            have : (if false = true then (1 : Int) else 0).toNat ≤ 1 := by split <;> decide
            omega
          obtain ⟨sl, hsl1, hsl2, hsl3⟩ := rep_lem false
          rw [hsl1]
          have eR : (upd H7 R (.lst (sl.map V.str))) R = some (.lst (sl.map V.str)) := upd_same
          have S8 : Same H7 (upd H7 R (.lst (sl.map V.str))) := same_upd nR
          generalize (upd H7 R (.lst (sl.map V.str))) = H8 at *
          refine ⟨W, R, _, _, rfl, rfl, S8 _ _ g1', eR, by rw [List.length_map, List.length_map]; omega, fun W2 nW2 => ?_⟩
          rw [← List.map_append]
          have W2p : W2 ≠ p := (g7'.same S8).ne nW2
          have P9 : PotAt (upd H8 W2 (.lst ((ws ++ sl).map V.str))) p (4 + 2 * c) := (g7'.same S8).same (same_upd nW2)
          have B9 : But p H4 (upd H8 W2 (.lst ((ws ++ sl).map V.str))) := (g8'.trans (But.of_same S8)).trans (But.of_same (same_upd nW2))
          have nW24 : H4 W2 = none := (g8'.trans (But.of_same S8)).free W2p nW2
          have e9 : (upd H8 W2 (.lst ((ws ++ sl).map V.str))) W2 = some (.lst ((ws ++ sl).map V.str)) := upd_same
          generalize (upd H8 W2 (.lst ((ws ++ sl).map V.str))) = H9 at *
          refine ⟨.ref W2, rfl, .inl ⟨rfl, _, .inl (.inl e9)⟩, (by show 2 ≤ sizeLine; decide), fun M nM => ?_⟩
          have Mp : M ≠ p := P9.ne nM
          have eM : (upd H9 M (.lst [.str (Str.ofString ""), .str (Str.ofString "-")])) M = some (.lst [.str (Str.ofString ""), .str (Str.ofString "-")]) := upd_same
          have S10 := same_upd (o := .lst [.str (Str.ofString ""), .str (Str.ofString "-")]) nM
          generalize (upd H9 M (.lst [.str (Str.ofString ""), .str (Str.ofString "-")])) = H10 at *
          refine ⟨.ref p, rfl, p, 2, 4 + 2 * c, rfl, by decide, by decide, P9.same S10, by omega, fun r2 ws2 hr2 hw2 => ?_⟩
          have P11 : PotAt (upd H10 p (.lst ws2)) p (4 + 2 * c + 1) := PotAt.upd hw2
          have B11 : But p H10 (upd H10 p (.lst ws2)) := But.upd
          generalize (upd H10 p (.lst ws2)) = H11 at *
          obtain ⟨z1, hz1, hz2, hz3⟩ := face_lem hr2
          refine ⟨M, _, (r2 : Int), .str z1, rfl, rfl, .inl (.inl (B11 _ _ Mp eM)), hz1, ?_⟩
          refine ⟨.ref p, rfl, p, 4, 4 + 2 * c + 1, rfl, by decide, by decide, P11, by omega, fun r3 ws3 hr3 hw3 => ?_⟩
          have P12 : PotAt (upd H11 p (.lst ws3)) p (4 + 2 * c + 2) := PotAt.upd hw3
          have B12 : But p H11 (upd H11 p (.lst ws3)) := But.upd
          generalize (upd H11 p (.lst ws3)) = H12 at *
          refine ⟨1, r3, rfl, rfl, _, rfl, Str.ofString "abcz", rfl, by decide +kernel, z1, _, rfl, rfl, ?_, ?_⟩
          · have h1 := cut_len (Str.ofString "abcz") none (some (1 + (r3 : Int)))
            have h2 : (Str.ofString "abcz").length = 4 := by decide +kernel
            omega
          have hcl := cut_len (Str.ofString "abcz") none (some (1 + (r3 : Int)))
          have hcl2 : (Str.ofString "abcz").length = 4 := by decide +kernel
          have hca : AscS (cutS (Str.ofString "abcz") none (some (1 + (r3 : Int)))) := AscS.cut (by unfold AscS; decide +kernel) _ _
          have e12 : H12 W2 = some (.lst ((ws ++ sl).map V.str)) := B12 _ _ W2p (B11 _ _ W2p (S10 _ _ e9))
          have hwl : (ws ++ sl).length = ws.length + sl.length := List.length_append
          refine ⟨W2, _, _, rfl, rfl, e12, ?_, some (.int (0 + (c : Int))), W2, (ws ++ sl) ++ [z1 ++ cutS (Str.ofString "abcz") none (some (1 + (r3 : Int)))], rfl, ?_, nW24, W2p, ?_, ?_, ?_, ?_, ?_⟩
          · rw [List.length_map]
            exact Nat.lt_of_lt_of_le (show (ws ++ sl).length < 30000 by omega) hsz
          · rw [upd_same]
            exact congrArg (fun l => some (HO.lst l)) (List.map_append (f := V.str) (l₁ := ws ++ sl) (l₂ := [z1 ++ cutS (Str.ofString "abcz") none (some (1 + (r3 : Int)))])).symm
          · intro z hz
            rcases List.mem_append.mp hz with hz | hz
            · rcases List.mem_append.mp hz with hz | hz
              · exact g4 z hz
              · exact hsl3 z hz
            · rw [List.mem_singleton.mp hz]
              exact ⟨by rw [str_app_len]; omega, hz3.app hca⟩
          · rw [List.length_append, List.length_singleton]
            omega
          · rw [List.length_append, List.length_singleton]
            omega
          · exact (P12.updne (Ne.symm W2p)).mono (by omega)
          · exact (((B9.trans (But.of_same S10)).trans B11).trans B12).new nW24
        | ring n =>
          refine ⟨.ref b, rfl, b, _, 0, _, rfl, rfl, hB', atI_nat (j := 0) rfl, rfl, _, rfl, iteN (by decide +kernel) ?_⟩
          refine .inr ⟨false, rfl, L, _, _, rfl, rfl, eL, ?_, ?_, ?_, fun R nR => ?_⟩
          · split <;> decide
          · split <;> decide
          · show 1 * (if false = true then (1 : Int) else 0).toNat ≤ sizeLine
            have : (if false = true then (1 : Int) else 0).toNat ≤ 1 := by split <;> decide
            omega
          obtain ⟨sl, hsl1, hsl2, hsl3⟩ := rep_lem false
          rw [hsl1]
          have eR : (upd H7 R (.lst (sl.map V.str))) R = some (.lst (sl.map V.str)) := upd_same
          have S8 : Same H7 (upd H7 R (.lst (sl.map V.str))) := same_upd nR
          generalize (upd H7 R (.lst (sl.map V.str))) = H8 at *
          refine ⟨W, R, _, _, rfl, rfl, S8 _ _ g1', eR, by rw [List.length_map, List.length_map]; omega, fun W2 nW2 => ?_⟩
          rw [← List.map_append]
          have W2p : W2 ≠ p := (g7'.same S8).ne nW2
          have P9 : PotAt (upd H8 W2 (.lst ((ws ++ sl).map V.str))) p (4 + 2 * c) := (g7'.same S8).same (same_upd nW2)
          have B9 : But p H4 (upd H8 W2 (.lst ((ws ++ sl).map V.str))) := (g8'.trans (But.of_same S8)).trans (But.of_same (same_upd nW2))
          have nW24 : H4 W2 = none := (g8'.trans (But.of_same S8)).free W2p nW2
          have e9 : (upd H8 W2 (.lst ((ws ++ sl).map V.str))) W2 = some (.lst ((ws ++ sl).map V.str)) := upd_same
          generalize (upd H8 W2 (.lst ((ws ++ sl).map V.str))) = H9 at *
          refine ⟨.ref W2, rfl, .inl ⟨rfl, _, .inl (.inl e9)⟩, (by show 2 ≤ sizeLine; decide), fun M nM => ?_⟩
          have Mp : M ≠ p := P9.ne nM
          have eM : (upd H9 M (.lst [.str (Str.ofString ""), .str (Str.ofString "-")])) M = some (.lst [.str (Str.ofString ""), .str (Str.ofString "-")]) := upd_same
          have S10 := same_upd (o := .lst [.str (Str.ofString ""), .str (Str.ofString "-")]) nM
          generalize (upd H9 M (.lst [.str (Str.ofString ""), .str (Str.ofString "-")])) = H10 at *
          refine ⟨.ref p, rfl, p, 2, 4 + 2 * c, rfl, by decide, by decide, P9.same S10, by omega, fun r2 ws2 hr2 hw2 => ?_⟩
          have P11 : PotAt (upd H10 p (.lst ws2)) p (4 + 2 * c + 1) := PotAt.upd hw2
          have B11 : But p H10 (upd H10 p (.lst ws2)) := But.upd
          generalize (upd H10 p (.lst ws2)) = H11 at *
          obtain ⟨z1, hz1, hz2, hz3⟩ := face_lem hr2
          refine ⟨M, _, (r2 : Int), .str z1, rfl, rfl, .inl (.inl (B11 _ _ Mp eM)), hz1, ?_⟩
          refine ⟨.ref p, rfl, p, 4, 4 + 2 * c + 1, rfl, by decide, by decide, P11, by omega, fun r3 ws3 hr3 hw3 => ?_⟩
          have P12 : PotAt (upd H11 p (.lst ws3)) p (4 + 2 * c + 2) := PotAt.upd hw3
          have B12 : But p H11 (upd H11 p (.lst ws3)) := But.upd
          generalize (upd H11 p (.lst ws3)) = H12 at *
          refine ⟨1, r3, rfl, rfl, _, rfl, Str.ofString "abcz", rfl, by decide +kernel, z1, _, rfl, rfl, ?_, ?_⟩
          · have h1 := cut_len (Str.ofString "abcz") none (some (1 + (r3 : Int)))
            have h2 : (Str.ofString "abcz").length = 4 := by decide +kernel
            omega
          have hcl := cut_len (Str.ofString "abcz") none (some (1 + (r3 : Int)))
          have hcl2 : (Str.ofString "abcz").length = 4 := by decide +kernel
          have hca : AscS (cutS (Str.ofString "abcz") none (some (1 + (r3 : Int)))) := AscS.cut (by unfold AscS; decide +kernel) _ _
          have e12 : H12 W2 = some (.lst ((ws ++ sl).map V.str)) := B12 _ _ W2p (B11 _ _ W2p (S10 _ _ e9))
          have hwl : (ws ++ sl).length = ws.length + sl.length := List.length_append
          refine ⟨W2, _, _, rfl, rfl, e12, ?_, some (.int (0 + (c : Int))), W2, (ws ++ sl) ++ [z1 ++ cutS (Str.ofString "abcz") none (some (1 + (r3 : Int)))], rfl, ?_, nW24, W2p, ?_, ?_, ?_, ?_, ?_⟩
          · rw [List.length_map]
            exact Nat.lt_of_lt_of_le (show (ws ++ sl).length < 30000 by omega) hsz
          · rw [upd_same]
            exact congrArg (fun l => some (HO.lst l)) (List.map_append (f := V.str) (l₁ := ws ++ sl) (l₂ := [z1 ++ cutS (Str.ofString "abcz") none (some (1 + (r3 : Int)))])).symm
          · intro z hz
            rcases List.mem_append.mp hz with hz | hz
            · rcases List.mem_append.mp hz with hz | hz
              · exact g4 z hz
              · exact hsl3 z hz
            · rw [List.mem_singleton.mp hz]
              exact ⟨by rw [str_app_len]; omega, hz3.app hca⟩
          · rw [List.length_append, List.length_singleton]
            omega
          · rw [List.length_append, List.length_singleton]
            omega
          · exact (P12.updne (Ne.symm W2p)).mono (by omega)
          · exact (((B9.trans (But.of_same S10)).trans B11).trans B12).new nW24
        | floor h w =>
          refine ⟨.ref b, rfl, b, _, 0, _, rfl, rfl, hB', atI_nat (j := 0) rfl, rfl, _, rfl, iteP (by decide +kernel) ?_⟩
          refine ⟨.int (0 + (c : Int)), rfl, 0 + (c : Int), 0, rfl, rfl, _, rfl, ite2 (fun e => ?_) (fun e => ?_)⟩
          · refine ⟨.int (0 + (c : Int)), rfl, .ref b, rfl, 1, rfl, b, _, -1, .int w, rfl, rfl, hB', rfl, 0 + (c : Int), w, rfl, rfl, (by have : 1 ≤ w := ok.2.1; omega), rfl, ?_⟩
            refine .inr ⟨(decide (V.int ((0 + (c : Int)) % (w : Int)) = V.int 0)), rfl, L, _, _, rfl, rfl, eL, ?_, ?_, ?_, fun R nR => ?_⟩
            · split <;> decide
            · split <;> decide
            · show 1 * (if (decide (V.int ((0 + (c : Int)) % (w : Int)) = V.int 0)) = true then (1 : Int) else 0).toNat ≤ sizeLine
              have : (if (decide (V.int ((0 + (c : Int)) % (w : Int)) = V.int 0)) = true then (1 : Int) else 0).toNat ≤ 1 := by split <;> decide
              omega
            obtain ⟨sl, hsl1, hsl2, hsl3⟩ := rep_lem (decide (V.int ((0 + (c : Int)) % (w : Int)) = V.int 0))
            rw [hsl1]
            have eR : (upd H7 R (.lst (sl.map V.str))) R = some (.lst (sl.map V.str)) := upd_same
            have S8 : Same H7 (upd H7 R (.lst (sl.map V.str))) := same_upd nR
            generalize (upd H7 R (.lst (sl.map V.str))) = H8 at *
            refine ⟨W, R, _, _, rfl, rfl, S8 _ _ g1', eR, by rw [List.length_map, List.length_map]; omega, fun W2 nW2 => ?_⟩
            rw [← List.map_append]
            have W2p : W2 ≠ p := (g7'.same S8).ne nW2
            have P9 : PotAt (upd H8 W2 (.lst ((ws ++ sl).map V.str))) p (4 + 2 * c) := (g7'.same S8).same (same_upd nW2)
            have B9 : But p H4 (upd H8 W2 (.lst ((ws ++ sl).map V.str))) := (g8'.trans (But.of_same S8)).trans (But.of_same (same_upd nW2))
            have nW24 : H4 W2 = none := (g8'.trans (But.of_same S8)).free W2p nW2
            have e9 : (upd H8 W2 (.lst ((ws ++ sl).map V.str))) W2 = some (.lst ((ws ++ sl).map V.str)) := upd_same
            generalize (upd H8 W2 (.lst ((ws ++ sl).map V.str))) = H9 at *
            refine ⟨.ref W2, rfl, .inl ⟨rfl, _, .inl (.inl e9)⟩, (by show 2 ≤ sizeLine; decide), fun M nM => ?_⟩
            have Mp : M ≠ p := P9.ne nM
            have eM : (upd H9 M (.lst [.str (Str.ofString ""), .str (Str.ofString "-")])) M = some (.lst [.str (Str.ofString ""), .str (Str.ofString "-")]) := upd_same
            have S10 := same_upd (o := .lst [.str (Str.ofString ""), .str (Str.ofString "-")]) nM
            generalize (upd H9 M (.lst [.str (Str.ofString ""), .str (Str.ofString "-")])) = H10 at *
            refine ⟨.ref p, rfl, p, 2, 4 + 2 * c, rfl, by decide, by decide, P9.same S10, by omega, fun r2 ws2 hr2 hw2 => ?_⟩
            have P11 : PotAt (upd H10 p (.lst ws2)) p (4 + 2 * c + 1) := PotAt.upd hw2
            have B11 : But p H10 (upd H10 p (.lst ws2)) := But.upd
            generalize (upd H10 p (.lst ws2)) = H11 at *
            obtain ⟨z1, hz1, hz2, hz3⟩ := face_lem hr2
            refine ⟨M, _, (r2 : Int), .str z1, rfl, rfl, .inl (.inl (B11 _ _ Mp eM)), hz1, ?_⟩
            refine ⟨.ref p, rfl, p, 4, 4 + 2 * c + 1, rfl, by decide, by decide, P11, by omega, fun r3 ws3 hr3 hw3 => ?_⟩
            have P12 : PotAt (upd H11 p (.lst ws3)) p (4 + 2 * c + 2) := PotAt.upd hw3
            have B12 : But p H11 (upd H11 p (.lst ws3)) := But.upd
            generalize (upd H11 p (.lst ws3)) = H12 at *
            refine ⟨1, r3, rfl, rfl, _, rfl, Str.ofString "abcz", rfl, by decide +kernel, z1, _, rfl, rfl, ?_, ?_⟩
            · have h1 := cut_len (Str.ofString "abcz") none (some (1 + (r3 : Int)))
              have h2 : (Str.ofString "abcz").length = 4 := by decide +kernel
              omega
            have hcl := cut_len (Str.ofString "abcz") none (some (1 + (r3 : Int)))
            have hcl2 : (Str.ofString "abcz").length = 4 := by decide +kernel
            have hca : AscS (cutS (Str.ofString "abcz") none (some (1 + (r3 : Int)))) := AscS.cut (by unfold AscS; decide +kernel) _ _
            have e12 : H12 W2 = some (.lst ((ws ++ sl).map V.str)) := B12 _ _ W2p (B11 _ _ W2p (S10 _ _ e9))
            have hwl : (ws ++ sl).length = ws.length + sl.length := List.length_append
            refine ⟨W2, _, _, rfl, rfl, e12, ?_, some (.int (0 + (c : Int))), W2, (ws ++ sl) ++ [z1 ++ cutS (Str.ofString "abcz") none (some (1 + (r3 : Int)))], rfl, ?_, nW24, W2p, ?_, ?_, ?_, ?_, ?_⟩
            · rw [List.length_map]
              exact Nat.lt_of_lt_of_le (show (ws ++ sl).length < 30000 by omega) hsz
            · rw [upd_same]
              exact congrArg (fun l => some (HO.lst l)) (List.map_append (f := V.str) (l₁ := ws ++ sl) (l₂ := [z1 ++ cutS (Str.ofString "abcz") none (some (1 + (r3 : Int)))])).symm
            · intro z hz
              rcases List.mem_append.mp hz with hz | hz
              · rcases List.mem_append.mp hz with hz | hz
                · exact g4 z hz
                · exact hsl3 z hz
              · rw [List.mem_singleton.mp hz]
                exact ⟨by rw [str_app_len]; omega, hz3.app hca⟩
            · rw [List.length_append, List.length_singleton]
              omega
            · rw [List.length_append, List.length_singleton]
              omega
            · exact (P12.updne (Ne.symm W2p)).mono (by omega)
            · exact (((B9.trans (But.of_same S10)).trans B11).trans B12).new nW24
          · refine .inr ⟨false, rfl, L, _, _, rfl, rfl, eL, ?_, ?_, ?_, fun R nR => ?_⟩
            · split <;> decide
            · split <;> decide
            · show 1 * (if false = true then (1 : Int) else 0).toNat ≤ sizeLine
              have : (if false = true then (1 : Int) else 0).toNat ≤ 1 := by split <;> decide
              omega
            obtain ⟨sl, hsl1, hsl2, hsl3⟩ := rep_lem false
            rw [hsl1]
            have eR : (upd H7 R (.lst (sl.map V.str))) R = some (.lst (sl.map V.str)) := upd_same
            have S8 : Same H7 (upd H7 R (.lst (sl.map V.str))) := same_upd nR
            generalize (upd H7 R (.lst (sl.map V.str))) = H8 at *
            refine ⟨W, R, _, _, rfl, rfl, S8 _ _ g1', eR, by rw [List.length_map, List.length_map]; omega, fun W2 nW2 => ?_⟩
            rw [← List.map_append]
            have W2p : W2 ≠ p := (g7'.same S8).ne nW2
            have P9 : PotAt (upd H8 W2 (.lst ((ws ++ sl).map V.str))) p (4 + 2 * c) := (g7'.same S8).same (same_upd nW2)
            have B9 : But p H4 (upd H8 W2 (.lst ((ws ++ sl).map V.str))) := (g8'.trans (But.of_same S8)).trans (But.of_same (same_upd nW2))
            have nW24 : H4 W2 = none := (g8'.trans (But.of_same S8)).free W2p nW2
            have e9 : (upd H8 W2 (.lst ((ws ++ sl).map V.str))) W2 = some (.lst ((ws ++ sl).map V.str)) := upd_same
            generalize (upd H8 W2 (.lst ((ws ++ sl).map V.str))) = H9 at *
            refine ⟨.ref W2, rfl, .inl ⟨rfl, _, .inl (.inl e9)⟩, (by show 2 ≤ sizeLine; decide), fun M nM => ?_⟩
            have Mp : M ≠ p := P9.ne nM
            have eM : (upd H9 M (.lst [.str (Str.ofString ""), .str (Str.ofString "-")])) M = some (.lst [.str (Str.ofString ""), .str (Str.ofString "-")]) := upd_same
            have S10 := same_upd (o := .lst [.str (Str.ofString ""), .str (Str.ofString "-")]) nM
            generalize (upd H9 M (.lst [.str (Str.ofString ""), .str (Str.ofString "-")])) = H10 at *
            refine ⟨.ref p, rfl, p, 2, 4 + 2 * c, rfl, by decide, by decide, P9.same S10, by omega, fun r2 ws2 hr2 hw2 => ?_⟩
            have P11 : PotAt (upd H10 p (.lst ws2)) p (4 + 2 * c + 1) := PotAt.upd hw2
            have B11 : But p H10 (upd H10 p (.lst ws2)) := But.upd
            generalize (upd H10 p (.lst ws2)) = H11 at *
            obtain ⟨z1, hz1, hz2, hz3⟩ := face_lem hr2
            refine ⟨M, _, (r2 : Int), .str z1, rfl, rfl, .inl (.inl (B11 _ _ Mp eM)), hz1, ?_⟩
            refine ⟨.ref p, rfl, p, 4, 4 + 2 * c + 1, rfl, by decide, by decide, P11, by omega, fun r3 ws3 hr3 hw3 => ?_⟩
            have P12 : PotAt (upd H11 p (.lst ws3)) p (4 + 2 * c + 2) := PotAt.upd hw3
            have B12 : But p H11 (upd H11 p (.lst ws3)) := But.upd
            generalize (upd H11 p (.lst ws3)) = H12 at *
            refine ⟨1, r3, rfl, rfl, _, rfl, Str.ofString "abcz", rfl, by decide +kernel, z1, _, rfl, rfl, ?_, ?_⟩
            · have h1 := cut_len (Str.ofString "abcz") none (some (1 + (r3 : Int)))
              have h2 : (Str.ofString "abcz").length = 4 := by decide +kernel
              omega
            have hcl := cut_len (Str.ofString "abcz") none (some (1 + (r3 : Int)))
            have hcl2 : (Str.ofString "abcz").length = 4 := by decide +kernel
            have hca : AscS (cutS (Str.ofString "abcz") none (some (1 + (r3 : Int)))) := AscS.cut (by unfold AscS; decide +kernel) _ _
            have e12 : H12 W2 = some (.lst ((ws ++ sl).map V.str)) := B12 _ _ W2p (B11 _ _ W2p (S10 _ _ e9))
            have hwl : (ws ++ sl).length = ws.length + sl.length := List.length_append
            refine ⟨W2, _, _, rfl, rfl, e12, ?_, some (.int (0 + (c : Int))), W2, (ws ++ sl) ++ [z1 ++ cutS (Str.ofString "abcz") none (some (1 + (r3 : Int)))], rfl, ?_, nW24, W2p, ?_, ?_, ?_, ?_, ?_⟩
            · rw [List.length_map]
              exact Nat.lt_of_lt_of_le (show (ws ++ sl).length < 30000 by omega) hsz
            · rw [upd_same]
              exact congrArg (fun l => some (HO.lst l)) (List.map_append (f := V.str) (l₁ := ws ++ sl) (l₂ := [z1 ++ cutS (Str.ofString "abcz") none (some (1 + (r3 : Int)))])).symm
            · intro z hz
              rcases List.mem_append.mp hz with hz | hz
              · rcases List.mem_append.mp hz with hz | hz
                · exact g4 z hz
                · exact hsl3 z hz
              · rw [List.mem_singleton.mp hz]
                exact ⟨by rw [str_app_len]; omega, hz3.app hca⟩
            · rw [List.length_append, List.length_singleton]
              omega
            · rw [List.length_append, List.length_singleton]
              omega
            · exact (P12.updne (Ne.symm W2p)).mono (by omega)
            · exact (((B9.trans (But.of_same S10)).trans B11).trans B12).new nW24
      · obtain ⟨z5, W, ws, rfl, g1, g2, g3, g4, g5, g6, g7, g8⟩ := hI
        have en : ((bd.cells : Nat) : Int).toNat = bd.cells := Int.toNat_natCast _
        rw [en] at g5 g6 g7
        have ewl : (ws.map V.str).length = ws.length := List.length_map _
        -- at = _law_dip(pot, len(words))
        refine ⟨.ref p, rfl, .ref W, rfl, W, _, rfl, .inl (.inl (.inl g1)), p, ((ws.map V.str).length : Nat), 4 + 2 * bd.cells, rfl, by omega, by omega, g7, by omega, fun r ws5 hr5 hw5 => ?_⟩
        have hrl : r < ws.length := by omega
        have g1' : (upd H6 p (.lst ws5)) W = some (.lst (ws.map V.str)) := by rw [upd_ne g3]; exact g1
        have eb7 : (upd H6 p (.lst ws5)) b = some (.tup bd.vals) := by rw [upd_ne bp]; exact g8 _ _ bp eb
        have S7 : Same H (upd H6 p (.lst ws5)) := same_but S4 Hp0 (g8.trans But.upd)
        generalize (upd H6 p (.lst ws5)) = H7 at *
        obtain ⟨zz, hzz⟩ : ∃ z, ws[r]? = some z := ⟨_, List.getElem?_eq_getElem hrl⟩
        have hzw := g4 zz (List.mem_of_getElem? hzz)
        have hat : atI (ws.map V.str) (r : Int) = some (.str zz) := atI_nat (by rw [List.getElem?_map, hzz]; rfl)
        -- for sign in _law_signs()
        refine ⟨rfl, fun H8 l cs S8 nl el hcl hca => ⟨l, rfl, ⟨_, .inl (.inl el)⟩, ?_⟩⟩
        have g1a := S8 _ _ g1'
        have eba := S8 _ _ eb7
        have S8a := S7.trans S8
        refine for_list (K := K) (a := l) (xs := cs.map fun c => V.str ⟨#[c]⟩) (fun j σ H9 => ∃ z7 z8 z9, σ = [some (.ref a), some (.int (0 + (i : Int))), some (.ref p), some (.ref b), some (.ref W), z5, some (.int (r : Int)), z7, z8, z9] ∧ Same H8 H9) ⟨y7, y8, y9, rfl, Same.refl _⟩ (fun j σ H9 hj hJ => ?_) (fun j x σ H9 hx hJ => ?_) (fun σ H9 hJ => ?_)
        · obtain ⟨z7, z8, z9, _, S9⟩ := hJ
          exact .inl (.inl (S9 _ _ el))
        · obtain ⟨z7, z8, z9, rfl, S9⟩ := hJ
          obtain ⟨c, hc1, rfl⟩ : ∃ c, cs[j]? = some c ∧ x = V.str ⟨#[c]⟩ := by
            rw [List.getElem?_map] at hx
            cases e : cs[j]? with
            | none => rw [e] at hx; cases hx
            | some c => rw [e] at hx; exact ⟨c, rfl, (Option.some.inj hx).symm⟩
          have hsa : AscS ⟨#[c]⟩ := AscS.one (hca c (List.mem_of_getElem? hc1))
          have hs1 : (⟨#[c]⟩ : Str).length = 1 := rfl
          have g1b : SqL K H9 W (ws.map V.str) := .inl (.inl (S9 _ _ g1a))
          have c1 := cut_len zz none (some 1)
          have c2 := cut_len zz (some 1) none
          have hz10 := hzw.1
          -- the words
          refine ⟨.str ⟨#[c]⟩, rfl, .str ⟨#[c]⟩, rfl, .ref W, rfl, .int (r : Int), rfl, W, _, (r : Int), .str zz, rfl, rfl, g1b, hat, _, _, rfl, rfl, by omega, ?_⟩
          refine ⟨.ref W, rfl, .int (r : Int), rfl, W, _, (r : Int), .str zz, rfl, rfl, g1b, hat, 1, rfl, zz, rfl, by omega, .str ⟨#[c]⟩, rfl, _, _, rfl, rfl, by omega, ?_⟩
          refine ⟨.ref W, rfl, .int (r : Int), rfl, W, _, (r : Int), .str zz, rfl, rfl, g1b, hat, 1, rfl, zz, rfl, by omega, _, _, rfl, rfl, by rw [str_app_len]; omega, ?_⟩
          refine ⟨.ref W, rfl, .int (r : Int), rfl, W, _, (r : Int), .str zz, rfl, rfl, g1b, hat, .str ⟨#[c]⟩, rfl, _, _, rfl, rfl, by omega, ?_⟩
          refine ⟨(by show 4 ≤ sizeLine; decide), fun l2 nl2 => ⟨l2, rfl, ⟨_, .inl (.inl upd_same)⟩, ?_⟩⟩
          obtain ⟨vars, hvars, hvok⟩ : ∃ vars : List Str, ([V.str ⟨#[c]⟩, V.str (⟨#[c]⟩ ++ zz), V.str (cutS zz none (some 1) ++ ⟨#[c]⟩ ++ cutS zz (some 1) none), V.str (zz ++ ⟨#[c]⟩)] : List V) = vars.map V.str ∧ ∀ z ∈ vars, z.length ≤ 40 ∧ AscS z := by
            refine ⟨[⟨#[c]⟩, ⟨#[c]⟩ ++ zz, cutS zz none (some 1) ++ ⟨#[c]⟩ ++ cutS zz (some 1) none, zz ++ ⟨#[c]⟩], rfl, fun z hz => ?_⟩
            simp only [List.mem_cons, List.not_mem_nil, or_false] at hz
            rcases hz with rfl | rfl | rfl | rfl
            · exact ⟨by rw [hs1]; decide, hsa⟩
            · exact ⟨by rw [str_app_len]; omega, hsa.app hzw.2⟩
            · exact ⟨by rw [str_app_len, str_app_len]; omega, ((hzw.2.cut _ _).app hsa).app (hzw.2.cut _ _)⟩
            · exact ⟨by rw [str_app_len]; omega, hzw.2.app hsa⟩
          have el2 : (upd H9 l2 (.lst [V.str ⟨#[c]⟩, V.str (⟨#[c]⟩ ++ zz), V.str (cutS zz none (some 1) ++ ⟨#[c]⟩ ++ cutS zz (some 1) none), V.str (zz ++ ⟨#[c]⟩)])) l2 = some (.lst (vars.map V.str)) := by rw [upd_same, hvars]
          have S10 := S9.trans (same_upd (o := .lst [V.str ⟨#[c]⟩, V.str (⟨#[c]⟩ ++ zz), V.str (cutS zz none (some 1) ++ ⟨#[c]⟩ ++ cutS zz (some 1) none), V.str (zz ++ ⟨#[c]⟩)]) nl2)
          generalize hH10 : (upd H9 l2 (.lst [V.str ⟨#[c]⟩, V.str (⟨#[c]⟩ ++ zz), V.str (cutS zz none (some 1) ++ ⟨#[c]⟩ ++ cutS zz (some 1) none), V.str (zz ++ ⟨#[c]⟩)])) = H10 at *
          refine for_list (K := K) (a := l2) (xs := vars.map V.str) (fun m σ H11 => ∃ z8 z9, σ = [some (.ref a), some (.int (0 + (i : Int))), some (.ref p), some (.ref b), some (.ref W), z5, some (.int (r : Int)), some (.str ⟨#[c]⟩), z8, z9] ∧ Same H10 H11) ⟨z8, z9, rfl, Same.refl _⟩ (fun m σ H11 hm hM => ?_) (fun m x σ H11 hx hM => ?_) (fun σ H11 hM => ?_)
          · obtain ⟨z8, z9, _, S11⟩ := hM
            exact .inl (.inl (S11 _ _ el2))
          · obtain ⟨z8, z9, rfl, S11⟩ := hM
            obtain ⟨wd, hwd, rfl⟩ : ∃ z, vars[m]? = some z ∧ x = V.str z := by
              rw [List.getElem?_map] at hx
              cases e : vars[m]? with
              | none => rw [e] at hx; cases hx
              | some c => rw [e] at hx; exact ⟨c, rfl, (Option.some.inj hx).symm⟩
            have hwok := hvok wd (List.mem_of_getElem? hwd)
            have S11a := S10.trans S11
            have gW : H11 W = some (.lst (ws.map V.str)) := S11a _ _ g1a
            have gb : H11 b = some (.tup bd.vals) := S11a _ _ eba
            -- text
            refine ⟨⟨_, rfl⟩, .ref W, rfl, .int (r : Int), rfl, (r : Int), rfl, W, _, rfl, .inl (.inl gW), fun q1 nq1 => ?_⟩
            have T1 := same_upd (o := .lst (cutV (ws.map V.str) none (some (r : Int)))) nq1
            have f1 : (upd H11 q1 (.lst (cutV (ws.map V.str) none (some (r : Int))))) q1 = some (.lst ((cutL ws none (some (r : Int))).map V.str)) := by rw [upd_same, cutV_map]
            generalize (upd H11 q1 (.lst (cutV (ws.map V.str) none (some (r : Int))))) = H12 at *
            refine ⟨.str wd, rfl, (by show 1 ≤ sizeLine; decide), fun q2 nq2 => ?_⟩
            have T2 := T1.trans (same_upd (o := .lst [.str wd]) nq2)
            have f1' := same_upd (o := .lst [.str wd]) nq2 _ _ f1
            have f2 : (upd H12 q2 (.lst [.str wd])) q2 = some (.lst ([wd].map V.str)) := upd_same
            generalize (upd H12 q2 (.lst [.str wd])) = H13 at *
            have k1 := cutL_len ws none (some (r : Int))
            have k2 := cutL_len ws (some ((r : Int) + 1)) none
            refine ⟨q1, q2, _, _, rfl, rfl, f1', f2, by rw [List.length_map, List.length_map, List.length_singleton]; omega, fun q3 nq3 => ?_⟩
            rw [← List.map_append]
            have T3 := T2.trans (same_upd (o := .lst ((cutL ws none (some (r : Int)) ++ [wd]).map V.str)) nq3)
            have f3 : (upd H13 q3 (.lst ((cutL ws none (some (r : Int)) ++ [wd]).map V.str))) q3 = some (.lst ((cutL ws none (some (r : Int)) ++ [wd]).map V.str)) := upd_same
            generalize (upd H13 q3 (.lst ((cutL ws none (some (r : Int)) ++ [wd]).map V.str))) = H14 at *
            refine ⟨.ref W, rfl, .int (r : Int), rfl, (r : Int), 1, rfl, rfl, _, rfl, W, _, rfl, .inl (.inl (T3 _ _ gW)), fun q4 nq4 => ?_⟩
            have T4 := T3.trans (same_upd (o := .lst (cutV (ws.map V.str) (some ((r : Int) + 1)) none)) nq4)
            have f3' := same_upd (o := .lst (cutV (ws.map V.str) (some ((r : Int) + 1)) none)) nq4 _ _ f3
            have f4 : (upd H14 q4 (.lst (cutV (ws.map V.str) (some ((r : Int) + 1)) none))) q4 = some (.lst ((cutL ws (some ((r : Int) + 1)) none).map V.str)) := by rw [upd_same, cutV_map]
            generalize (upd H14 q4 (.lst (cutV (ws.map V.str) (some ((r : Int) + 1)) none))) = H15 at *
            have k3 : (cutL ws none (some (r : Int)) ++ [wd]).length = (cutL ws none (some (r : Int))).length + 1 := by rw [List.length_append]; rfl
            refine ⟨q3, q4, _, _, rfl, rfl, f3', f4, by rw [List.length_map, List.length_map]; omega, fun q5 nq5 => ?_⟩
            rw [← List.map_append]
            generalize hys : (cutL ws none (some (r : Int)) ++ [wd]) ++ cutL ws (some ((r : Int) + 1)) none = ys at *
            have T5 := T4.trans (same_upd (o := .lst (ys.map V.str)) nq5)
            have f5 : (upd H15 q5 (.lst (ys.map V.str))) q5 = some (.lst (ys.map V.str)) := upd_same
            generalize (upd H15 q5 (.lst (ys.map V.str))) = H16 at *
            have hyl : ys.length ≤ 30 := by rw [← hys, List.length_append]; omega
            have hyo : ∀ z ∈ ys, z.length ≤ 40 ∧ AscS z := fun z hz => by
              rw [← hys] at hz
              rcases List.mem_append.mp hz with hz | hz
              · rcases List.mem_append.mp hz with hz | hz
                · have := g4 z (cutL_mem hz); exact ⟨by have := this.1; omega, this.2⟩
                · rw [List.mem_singleton.mp hz]; exact hwok
              · have := g4 z (cutL_mem hz); exact ⟨by have := this.1; omega, this.2⟩
            refine ⟨Str.ofString " ", q5, ys, rfl, rfl, .inl (.inl (.inl f5)), join_fits (m := 40) (n := 30) (k := 1) (fun z hz => (hyo z hz).1) hyl (by decide), ?_⟩
            rw [TL.join_eq]
            have hta : AscS (Str.join (Str.ofString " ") ys) := AscS.join (by unfold AscS; decide +kernel) fun z hz => (hyo z hz).2
            have htl : (Str.join (Str.ofString " ") ys).length ≤ 30 * 40 + 30 * 1 := join_le (fun z hz => (hyo z hz).1) hyl (by decide)
            generalize Str.join (Str.ofString " ") ys = text at *
            have gb2 := T5 _ _ gb
            have S16 := S11.trans T5
            -- told, due
            refine ⟨.ref b, rfl, .str text, rfl, b, bd, text, rfl, gb2, ok, by omega, hta, fun i1 hi1 H17 S17 => ?_, fun hn1 H17 t1 S17 nt1 hst1 => ?_⟩
            · obtain ⟨j1, j2, j3, j4⟩ := dInt_ok (bad_le hi1 (by omega))
              refine ⟨_, .int (i1 : Int), rfl, .inl ⟨_, rfl⟩, .int _, j1, j2, j3, j4, ?_⟩
              refine ⟨.ref b, rfl, .str text, rfl, b, bd, text, rfl, S17 _ _ gb2, ok, by omega, hta, fun i2 hi2 H18 S18 => ?_, (fun hn2 => by rw [hi1] at hn2; cases hn2)⟩
              rw [hi1] at hi2
              obtain rfl := Option.some.inj hi2
              refine ⟨_, .int (i1 : Int), rfl, .inl ⟨_, rfl⟩, .int _, j1, j2, j3, j4, rfl, _, rfl, iteNS rfl ?_⟩
              exact ⟨_, _, rfl, (S16.trans S17).trans S18⟩
            · obtain ⟨j1, j2, j3, j4⟩ := dStand_ok (things_ok hn1) (things_few ok hn1)
              refine ⟨_, dStand (thingsIn (Txt.split text blank)), rfl, .inr ⟨_, rfl⟩, hst1.data, j1, j2, j3, j4, ?_⟩
              refine ⟨.ref b, rfl, .str text, rfl, b, bd, text, rfl, S17 _ _ gb2, ok, by omega, hta, (fun i2 hi2 => by rw [hn1] at hi2; cases hi2), fun hn2 H18 t2 S18 nt2 hst2 => ?_⟩
              refine ⟨_, dStand (thingsIn (Txt.split text blank)), rfl, .inr ⟨_, rfl⟩, hst2.data, j1, j2, j3, j4, rfl, _, rfl, iteNS rfl ?_⟩
              exact ⟨_, _, rfl, (S16.trans S17).trans S18⟩
          · obtain ⟨z8, z9, rfl, S11⟩ := hM
            exact ⟨_, _, _, rfl, S10.trans S11⟩
        · obtain ⟨z7, z8, z9, rfl, S9⟩ := hJ
          exact ⟨_, _, _, _, _, _, _, _, _, rfl, S8a.trans S9⟩
end
abbrev sx_NoStanding : Stmt := inClass (topS 4) 0
def msg_NoStanding : PySem.Expr := match defBody sx_NoStanding with
  | (.Expr (.Call _ (m :: _) _ _) _) :: _ => m
  | _ => .Constant .none 0 ⟨0, 0, 0, 0⟩
theorem tx_NoStanding : SupText sx_NoStanding "at" msg_NoStanding := ⟨⟨_, _, _, _, _, _, _, _, _, rfl, _, fun _ => rfl⟩, fun _ => rfl, rfl, rfl, ⟨by decide +kernel, by decide +kernel, by decide +kernel, by decide +kernel, by decide +kernel⟩⟩
theorem mx_NoStanding {prog : Program} {w : World} : MsgOk prog w msg_NoStanding "at" okInt := msg_mid (by decide +kernel) (by decide +kernel) (by decide +kernel)
theorem all_mk {l : PySem.W.OpenLaw} {w : World} {K : PySem.W.Frag} {h : Heap} {mg : Str → Option Value} {fa f_highandwide f_readstanding f_isname f_isdue f_thingof f_lawpot f_lawdip f_lawcells f_lawthing f_lawdue f_lawtold f_lawsigns f_law : Addr} (X : K.In h) (G : h.Ns mainGlobals mg) (hfa : mg "law" = some (.ref fa))
    {od_highandwide an_highandwide od_readstanding an_readstanding od_isname an_isname od_isdue an_isdue od_thingof an_thingof od_lawpot an_lawpot od_lawdip an_lawdip od_lawcells an_lawcells od_lawthing an_lawthing od_lawdue an_lawdue od_lawtold an_lawtold od_lawsigns an_lawsigns od_law an_law : Option Addr} {sl_highandwide sl_readstanding sl_isname sl_isdue sl_thingof sl_lawpot sl_lawdip sl_lawcells sl_lawthing sl_lawdue sl_lawtold sl_lawsigns sl_law : Array (Option Value)} {oc_highandwide kV_highandwide dc_highandwide pm_highandwide cd_highandwide ct_highandwide oc_readstanding kV_readstanding dc_readstanding pm_readstanding cd_readstanding ct_readstanding oc_isname kV_isname dc_isname pm_isname cd_isname ct_isname oc_isdue kV_isdue dc_isdue pm_isdue cd_isdue ct_isdue oc_thingof kV_thingof dc_thingof pm_thingof cd_thingof ct_thingof oc_lawpot kV_lawpot dc_lawpot pm_lawpot cd_lawpot ct_lawpot oc_lawdip kV_lawdip dc_lawdip pm_lawdip cd_lawdip ct_lawdip oc_lawcells kV_lawcells dc_lawcells pm_lawcells cd_lawcells ct_lawcells oc_lawthing kV_lawthing dc_lawthing pm_lawthing cd_lawthing ct_lawthing oc_lawdue kV_lawdue dc_lawdue pm_lawdue cd_lawdue ct_lawdue oc_lawtold kV_lawtold dc_lawtold pm_lawtold cd_lawtold ct_lawtold oc_lawsigns kV_lawsigns dc_lawsigns pm_lawsigns cd_lawsigns ct_lawsigns oc_law kV_law dc_law pm_law cd_law ct_law : Value}
    (a_highandwide : PySem.W.nsIn K mainGlobals "high_and_wide" = some (some (.ref f_highandwide))) (l_highandwide : K.lookup f_highandwide = some ⟨oc_highandwide, od_highandwide, .func (PySem.W.fnOf "high_and_wide" "high_and_wide" (defArgs sHighAndWide) (defBody sHighAndWide) (defScope sHighAndWide) .none kV_highandwide dc_highandwide pm_highandwide an_highandwide cd_highandwide ct_highandwide), sl_highandwide⟩) (c_highandwide : PySem.W.codeIn K cd_highandwide "high_and_wide" = true) (k_highandwide : PySem.W.keepIn K (.ref f_highandwide) = true)
    (a_readstanding : PySem.W.nsIn K mainGlobals "read_standing" = some (some (.ref f_readstanding))) (l_readstanding : K.lookup f_readstanding = some ⟨oc_readstanding, od_readstanding, .func (PySem.W.fnOf "read_standing" "read_standing" (defArgs sReadStanding) (defBody sReadStanding) (defScope sReadStanding) .none kV_readstanding dc_readstanding pm_readstanding an_readstanding cd_readstanding ct_readstanding), sl_readstanding⟩) (c_readstanding : PySem.W.codeIn K cd_readstanding "read_standing" = true) (k_readstanding : PySem.W.keepIn K (.ref f_readstanding) = true)
    (a_isname : PySem.W.nsIn K mainGlobals "is_name" = some (some (.ref f_isname))) (l_isname : K.lookup f_isname = some ⟨oc_isname, od_isname, .func (PySem.W.fnOf "is_name" "is_name" (defArgs sIsName) (defBody sIsName) (defScope sIsName) .none kV_isname dc_isname pm_isname an_isname cd_isname ct_isname), sl_isname⟩) (c_isname : PySem.W.codeIn K cd_isname "is_name" = true) (k_isname : PySem.W.keepIn K (.ref f_isname) = true)
    (a_isdue : PySem.W.nsIn K mainGlobals "_is_due" = some (some (.ref f_isdue))) (l_isdue : K.lookup f_isdue = some ⟨oc_isdue, od_isdue, .func (PySem.W.fnOf "_is_due" "_is_due" (defArgs sIsDue) (defBody sIsDue) (defScope sIsDue) .none kV_isdue dc_isdue pm_isdue an_isdue cd_isdue ct_isdue), sl_isdue⟩) (c_isdue : PySem.W.codeIn K cd_isdue "_is_due" = true) (k_isdue : PySem.W.keepIn K (.ref f_isdue) = true)
    (a_thingof : PySem.W.nsIn K mainGlobals "_thing_of" = some (some (.ref f_thingof))) (l_thingof : K.lookup f_thingof = some ⟨oc_thingof, od_thingof, .func (PySem.W.fnOf "_thing_of" "_thing_of" (defArgs sThingOf) (defBody sThingOf) (defScope sThingOf) .none kV_thingof dc_thingof pm_thingof an_thingof cd_thingof ct_thingof), sl_thingof⟩) (c_thingof : PySem.W.codeIn K cd_thingof "_thing_of" = true) (k_thingof : PySem.W.keepIn K (.ref f_thingof) = true)
    (a_lawpot : PySem.W.nsIn K mainGlobals "_law_pot" = some (some (.ref f_lawpot))) (l_lawpot : K.lookup f_lawpot = some ⟨oc_lawpot, od_lawpot, .func (PySem.W.fnOf "_law_pot" "_law_pot" (defArgs sPot) (defBody sPot) (defScope sPot) .none kV_lawpot dc_lawpot pm_lawpot an_lawpot cd_lawpot ct_lawpot), sl_lawpot⟩) (c_lawpot : PySem.W.codeIn K cd_lawpot "_law_pot" = true) (k_lawpot : PySem.W.keepIn K (.ref f_lawpot) = true)
    (a_lawdip : PySem.W.nsIn K mainGlobals "_law_dip" = some (some (.ref f_lawdip))) (l_lawdip : K.lookup f_lawdip = some ⟨oc_lawdip, od_lawdip, .func (PySem.W.fnOf "_law_dip" "_law_dip" (defArgs sDip) (defBody sDip) (defScope sDip) .none kV_lawdip dc_lawdip pm_lawdip an_lawdip cd_lawdip ct_lawdip), sl_lawdip⟩) (c_lawdip : PySem.W.codeIn K cd_lawdip "_law_dip" = true) (k_lawdip : PySem.W.keepIn K (.ref f_lawdip) = true)
    (a_lawcells : PySem.W.nsIn K mainGlobals "_law_cells" = some (some (.ref f_lawcells))) (l_lawcells : K.lookup f_lawcells = some ⟨oc_lawcells, od_lawcells, .func (PySem.W.fnOf "_law_cells" "_law_cells" (defArgs sCells) (defBody sCells) (defScope sCells) .none kV_lawcells dc_lawcells pm_lawcells an_lawcells cd_lawcells ct_lawcells), sl_lawcells⟩) (c_lawcells : PySem.W.codeIn K cd_lawcells "_law_cells" = true) (k_lawcells : PySem.W.keepIn K (.ref f_lawcells) = true)
    (a_lawthing : PySem.W.nsIn K mainGlobals "_law_thing" = some (some (.ref f_lawthing))) (l_lawthing : K.lookup f_lawthing = some ⟨oc_lawthing, od_lawthing, .func (PySem.W.fnOf "_law_thing" "_law_thing" (defArgs sThing) (defBody sThing) (defScope sThing) .none kV_lawthing dc_lawthing pm_lawthing an_lawthing cd_lawthing ct_lawthing), sl_lawthing⟩) (c_lawthing : PySem.W.codeIn K cd_lawthing "_law_thing" = true) (k_lawthing : PySem.W.keepIn K (.ref f_lawthing) = true)
    (a_lawdue : PySem.W.nsIn K mainGlobals "_law_due" = some (some (.ref f_lawdue))) (l_lawdue : K.lookup f_lawdue = some ⟨oc_lawdue, od_lawdue, .func (PySem.W.fnOf "_law_due" "_law_due" (defArgs sDue) (defBody sDue) (defScope sDue) .none kV_lawdue dc_lawdue pm_lawdue an_lawdue cd_lawdue ct_lawdue), sl_lawdue⟩) (c_lawdue : PySem.W.codeIn K cd_lawdue "_law_due" = true) (k_lawdue : PySem.W.keepIn K (.ref f_lawdue) = true)
    (a_lawtold : PySem.W.nsIn K mainGlobals "_law_told" = some (some (.ref f_lawtold))) (l_lawtold : K.lookup f_lawtold = some ⟨oc_lawtold, od_lawtold, .func (PySem.W.fnOf "_law_told" "_law_told" (defArgs sTold) (defBody sTold) (defScope sTold) .none kV_lawtold dc_lawtold pm_lawtold an_lawtold cd_lawtold ct_lawtold), sl_lawtold⟩) (c_lawtold : PySem.W.codeIn K cd_lawtold "_law_told" = true) (k_lawtold : PySem.W.keepIn K (.ref f_lawtold) = true)
    (a_lawsigns : PySem.W.nsIn K mainGlobals "_law_signs" = some (some (.ref f_lawsigns))) (l_lawsigns : K.lookup f_lawsigns = some ⟨oc_lawsigns, od_lawsigns, .func (PySem.W.fnOf "_law_signs" "_law_signs" (defArgs sSigns) (defBody sSigns) (defScope sSigns) .none kV_lawsigns dc_lawsigns pm_lawsigns an_lawsigns cd_lawsigns ct_lawsigns), sl_lawsigns⟩) (c_lawsigns : PySem.W.codeIn K cd_lawsigns "_law_signs" = true) (k_lawsigns : PySem.W.keepIn K (.ref f_lawsigns) = true)
    (a_law : PySem.W.nsIn K mainGlobals "law" = some (some (.ref f_law))) (l_law : K.lookup f_law = some ⟨oc_law, od_law, .func (PySem.W.fnOf "law" "law" (defArgs sLaw) (defBody sLaw) (defScope sLaw) .none kV_law dc_law pm_law an_law cd_law ct_law), sl_law⟩) (c_law : PySem.W.codeIn K cd_law "law" = true) (k_law : PySem.W.keepIn K (.ref f_law) = true)
    (z_range : PySem.W.nsIn K mainGlobals "range" = some none)
    (z_max : PySem.W.nsIn K mainGlobals "max" = some none)
    (z_min : PySem.W.nsIn K mainGlobals "min" = some none)
    (z_len : PySem.W.nsIn K mainGlobals "len" = some none)
    (z_int : PySem.W.nsIn K mainGlobals "int" = some none)
    (z_list : PySem.W.nsIn K mainGlobals "list" = some none)
    (z_tuple : PySem.W.nsIn K mainGlobals "tuple" = some none)
    (z_all : PySem.W.nsIn K mainGlobals "all" = some none)
    (z_enumerate : PySem.W.nsIn K mainGlobals "enumerate" = some none)
    (z_repr : PySem.W.nsIn K mainGlobals "repr" = some none)
    {t_MOST_LETTERS : Tok} (g_MOST_LETTERS : PySem.W.nsIn K mainGlobals "MOST_LETTERS" = some (some (.int 4 t_MOST_LETTERS)))
    {t_LETTERS : Tok} (g_LETTERS : PySem.W.nsIn K mainGlobals "LETTERS" = some (some (.str abc t_LETTERS)))
    {C_NoStanding fI_NoStanding cc_NoStanding cda_NoStanding : Addr} {nm_NoStanding qn_NoStanding : Str} {N_NoStanding : Addr} {bs_NoStanding bm_NoStanding sub_NoStanding : List Value} {sn_NoStanding : List Str} {ab_NoStanding : Bool} {col_NoStanding : Option Bool} {dd_NoStanding : Option Addr} {k0_NoStanding k1_NoStanding k2_NoStanding k3_NoStanding k5_NoStanding : Option Value}
    {soc_NoStanding skV_NoStanding sdc_NoStanding spm_NoStanding sct_NoStanding ccl_NoStanding cl_NoStanding : Value} {sod_NoStanding san_NoStanding cdd_NoStanding cld_NoStanding : Option Addr} {sosl_NoStanding vs_NoStanding : Array (Option Value)} {va_NoStanding : Array Value} {csl_NoStanding : Array (Option Value)} {file_NoStanding : Str} {tf_NoStanding : Tok}
    (a_NoStanding : PySem.W.nsIn K mainGlobals "NoStanding" = some (some (.ref C_NoStanding)))
    (x_NoStanding : K.lookup C_NoStanding = some (excClassObj nm_NoStanding qn_NoStanding C_NoStanding N_NoStanding bs_NoStanding bm_NoStanding true sn_NoStanding sub_NoStanding ab_NoStanding col_NoStanding dd_NoStanding k0_NoStanding k1_NoStanding k2_NoStanding k3_NoStanding k5_NoStanding "ValueError.__new__"))
    (hbm_NoStanding : PySem.HandSPX.refsVE bm_NoStanding = true)
    (sa_NoStanding : PySem.W.findIn K (.ref C_NoStanding) "__setattr__" = some (some (.builtin "object.__setattr__")))
    (ga_NoStanding : PySem.W.findIn K (.ref C_NoStanding) "__getattribute__" = some (some (.builtin "BaseException.__getattribute__")))
    (gg_NoStanding : PySem.W.findIn K (.ref C_NoStanding) "__getattr__" = some none)
    (no_NoStanding : PySem.W.findIn K (.ref C_NoStanding) "at" = some none)
    (iC_NoStanding : PySem.W.findIn K (.ref C_NoStanding) "__init__" = some (some (.ref fI_NoStanding)))
    (tI_NoStanding : PySem.W.typeIn K (.ref fI_NoStanding) = some (.type "function"))
    (kC_NoStanding : PySem.W.keepIn K (.ref C_NoStanding) = true)
    (eC_NoStanding : PySem.W.subIn K (.ref C_NoStanding) (.type "BaseException") = some true)
    (vE_NoStanding : PySem.W.subIn K (.ref C_NoStanding) (.type "ValueError") = some true)
    (tC_NoStanding : PySem.W.typeIn K (.ref C_NoStanding) = some (.type "type"))
    (hD_NoStanding : PySem.W.hasDictIn K C_NoStanding = true)
    (cI_NoStanding : PySem.W.isClsIn K C_NoStanding = true)
    (sC_NoStanding : PySem.W.subIn K (.ref C_NoStanding) (.ref C_NoStanding) = some true)
    (op_NoStanding : PySem.W.nsIn K PySem.cStatics "thirdparty.any" = some none)
    (mr_NoStanding : PySem.W.mroIn K C_NoStanding (.ref C_NoStanding) = some true)
    (su_NoStanding : PySem.W.ks_superIn K C_NoStanding C_NoStanding "__init__" = some (some (.builtin "ValueError.__init__")))
    (ns_NoStanding : PySem.W.nsIn K mainGlobals "super" = some none)
    (fn_NoStanding : K.lookup fI_NoStanding = some ⟨soc_NoStanding, sod_NoStanding, .func (PySem.W.ksFn "__init__" "NoStanding.__init__" (defArgs sx_NoStanding) (defBody sx_NoStanding) (defScope sx_NoStanding) .none skV_NoStanding sdc_NoStanding spm_NoStanding san_NoStanding (.ref cda_NoStanding) sct_NoStanding cc_NoStanding), sosl_NoStanding⟩)
    (cd_NoStanding : PySem.W.codeIn K (.ref cda_NoStanding) "NoStanding.__init__" = true)
    (co_NoStanding : K.lookup cda_NoStanding = some ⟨ccl_NoStanding, cdd_NoStanding, .fields va_NoStanding, vs_NoStanding⟩)
    (vf_NoStanding : va_NoStanding[2]? = some (.str file_NoStanding tf_NoStanding))
    (fi_NoStanding : ((l.prog.main.file : Str) == file_NoStanding) = true)
    (ce_NoStanding : K.lookup cc_NoStanding = some ⟨cl_NoStanding, cld_NoStanding, .cell (some (.ref C_NoStanding)), csl_NoStanding⟩)
    (tp_NoStanding : (l.prog.main.scope.names.lookup ("super" : Str)).isSome = false)
    : ∃ fd : FuncData, (∀ (s : Shared) (v : Value), BindsTo s fd ⟨[v], []⟩ [("script", v)]) ∧ ∀ base : Heap, K.In base → base.Ns mainGlobals mg → GRun l.prog w K mg base CX0 6 fa fd ["script"] (spLaw K) := by
  have e := hfa.symm.trans (PySem.W.mg_of X G a_law)
  cases e
  have F_highandwide := fun_mk (st := sHighAndWide) l_highandwide c_highandwide k_highandwide
  have b_highandwide := F_highandwide.binds (ps := ["board"]) fun _ _ _ _ _ _ us hl => match us, hl with | [_], _ => rfl
  have g_highandwide := PySem.W.mg_of X G a_highandwide
  have F_readstanding := fun_mk (st := sReadStanding) l_readstanding c_readstanding k_readstanding
  have b_readstanding := F_readstanding.binds (ps := ["board", "text"]) fun _ _ _ _ _ _ us hl => match us, hl with | [_, _], _ => rfl
  have g_readstanding := PySem.W.mg_of X G a_readstanding
  have F_isname := fun_mk (st := sIsName) l_isname c_isname k_isname
  have b_isname := F_isname.binds (ps := ["word"]) fun _ _ _ _ _ _ us hl => match us, hl with | [_], _ => rfl
  have g_isname := PySem.W.mg_of X G a_isname
  have F_isdue := fun_mk (st := sIsDue) l_isdue c_isdue k_isdue
  have b_isdue := F_isdue.binds (ps := ["word", "at", "wide"]) fun _ _ _ _ _ _ us hl => match us, hl with | [_, _, _], _ => rfl
  have g_isdue := PySem.W.mg_of X G a_isdue
  have F_thingof := fun_mk (st := sThingOf) l_thingof c_thingof k_thingof
  have b_thingof := F_thingof.binds (ps := ["word"]) fun _ _ _ _ _ _ us hl => match us, hl with | [_], _ => rfl
  have g_thingof := PySem.W.mg_of X G a_thingof
  have F_lawpot := fun_mk (st := sPot) l_lawpot c_lawpot k_lawpot
  have b_lawpot := F_lawpot.binds (ps := ["script", "at"]) fun _ _ _ _ _ _ us hl => match us, hl with | [_, _], _ => rfl
  have g_lawpot := PySem.W.mg_of X G a_lawpot
  have F_lawdip := fun_mk (st := sDip) l_lawdip c_lawdip k_lawdip
  have b_lawdip := F_lawdip.binds (ps := ["pot", "many"]) fun _ _ _ _ _ _ us hl => match us, hl with | [_, _], _ => rfl
  have g_lawdip := PySem.W.mg_of X G a_lawdip
  have F_lawcells := fun_mk (st := sCells) l_lawcells c_lawcells k_lawcells
  have b_lawcells := F_lawcells.binds (ps := ["board"]) fun _ _ _ _ _ _ us hl => match us, hl with | [_], _ => rfl
  have g_lawcells := PySem.W.mg_of X G a_lawcells
  have F_lawthing := fun_mk (st := sThing) l_lawthing c_lawthing k_lawthing
  have b_lawthing := F_lawthing.binds (ps := ["word"]) fun _ _ _ _ _ _ us hl => match us, hl with | [_], _ => rfl
  have g_lawthing := PySem.W.mg_of X G a_lawthing
  have F_lawdue := fun_mk (st := sDue) l_lawdue c_lawdue k_lawdue
  have b_lawdue := F_lawdue.binds (ps := ["board", "text"]) fun _ _ _ _ _ _ us hl => match us, hl with | [_, _], _ => rfl
  have g_lawdue := PySem.W.mg_of X G a_lawdue
  have F_lawtold := fun_mk (st := sTold) l_lawtold c_lawtold k_lawtold
  have b_lawtold := F_lawtold.binds (ps := ["board", "text"]) fun _ _ _ _ _ _ us hl => match us, hl with | [_, _], _ => rfl
  have g_lawtold := PySem.W.mg_of X G a_lawtold
  have F_lawsigns := fun_mk (st := sSigns) l_lawsigns c_lawsigns k_lawsigns
  have b_lawsigns := F_lawsigns.binds (ps := []) fun _ _ _ _ _ _ us hl => match us, hl with | [], _ => rfl
  have g_lawsigns := PySem.W.mg_of X G a_lawsigns
  have F_law := fun_mk (st := sLaw) l_law c_law k_law
  have m_range := PySem.W.mg_none_of X G z_range
  have m_max := PySem.W.mg_none_of X G z_max
  have m_min := PySem.W.mg_none_of X G z_min
  have m_len := PySem.W.mg_none_of X G z_len
  have m_int := PySem.W.mg_none_of X G z_int
  have m_list := PySem.W.mg_none_of X G z_list
  have m_tuple := PySem.W.mg_none_of X G z_tuple
  have m_all := PySem.W.mg_none_of X G z_all
  have m_enumerate := PySem.W.mg_none_of X G z_enumerate
  have m_repr := PySem.W.mg_none_of X G z_repr
  have q_MOST_LETTERS := PySem.W.mg_of X G g_MOST_LETTERS
  have q_LETTERS := PySem.W.mg_of X G g_LETTERS
  have T_NoStanding : SupTxt l.prog K sx_NoStanding "NoStanding.__init__" "at" msg_NoStanding C_NoStanding fI_NoStanding cc_NoStanding cda_NoStanding := ⟨⟨nm_NoStanding, qn_NoStanding, N_NoStanding, bs_NoStanding, bm_NoStanding, sn_NoStanding, sub_NoStanding, ab_NoStanding, col_NoStanding, dd_NoStanding, k0_NoStanding, k1_NoStanding, k2_NoStanding, k3_NoStanding, k5_NoStanding, x_NoStanding, hbm_NoStanding⟩, sa_NoStanding, ga_NoStanding, gg_NoStanding, no_NoStanding, iC_NoStanding, tI_NoStanding, kC_NoStanding, eC_NoStanding, vE_NoStanding, tC_NoStanding, hD_NoStanding, exm_self eC_NoStanding cI_NoStanding tC_NoStanding sC_NoStanding, op_NoStanding, mr_NoStanding, su_NoStanding, ns_NoStanding, ⟨soc_NoStanding, sod_NoStanding, skV_NoStanding, sdc_NoStanding, spm_NoStanding, san_NoStanding, sct_NoStanding, sosl_NoStanding, fn_NoStanding, fun _ _ _ => .of_eq rfl⟩, cd_NoStanding, ⟨ccl_NoStanding, cdd_NoStanding, va_NoStanding, vs_NoStanding, file_NoStanding, tf_NoStanding, co_NoStanding, vf_NoStanding, fi_NoStanding⟩, ⟨cl_NoStanding, cld_NoStanding, csl_NoStanding, ce_NoStanding⟩, tp_NoStanding⟩
  have gX_NoStanding := PySem.W.mg_of X G a_NoStanding
  refine ⟨PySem.W.fnOf "law" "law" (defArgs sLaw) (defBody sLaw) (defScope sLaw) .none kV_law dc_law pm_law an_law cd_law ct_law, fun s v => .of_eq rfl, fun base _ _ => ?_⟩
  have D__law_pot : Def l.prog w K mg base 1 "_law_pot" ["script", "at"] _ f_lawpot _ := ⟨ok_pot F_lawpot m_len m_max, g_lawpot, F_lawpot.kp, b_lawpot⟩
  have D__law_dip : Def l.prog w K mg base 1 "_law_dip" ["pot", "many"] _ f_lawdip _ := ⟨ok_dip F_lawdip, g_lawdip, F_lawdip.kp, b_lawdip⟩
  have D__law_cells : Def l.prog w K mg base 1 "_law_cells" ["board"] _ f_lawcells _ := ⟨ok_cells F_lawcells, g_lawcells, F_lawcells.kp, b_lawcells⟩
  have D_high_and_wide : Def l.prog w K mg base 1 "high_and_wide" ["board"] _ f_highandwide _ := ⟨ok_high F_highandwide, g_highandwide, F_highandwide.kp, b_highandwide⟩
  have D_is_name : Def l.prog w K mg base 1 "is_name" ["word"] _ f_isname _ := ⟨ok_isName F_isname m_len m_all q_MOST_LETTERS q_LETTERS, g_isname, F_isname.kp, b_isname⟩
  have D__thing_of : Def l.prog w K mg base 1 "_thing_of" ["word"] _ f_thingof _ := ⟨ok_thingOf F_thingof, g_thingof, F_thingof.kp, b_thingof⟩
  have D__is_due : Def l.prog w K mg base 2 "_is_due" ["word", "at", "wide"] _ f_isdue _ := ⟨ok_isDue F_isdue D__thing_of D_is_name, g_isdue, F_isdue.kp, b_isdue⟩
  have D_read_standing : DefX l.prog w K mg base 4 "read_standing" ["board", "text"] _ f_readstanding _ := ⟨ok_read F_readstanding D_high_and_wide D__thing_of D__is_due m_enumerate m_len m_tuple T_NoStanding tx_NoStanding mx_NoStanding gX_NoStanding, g_readstanding, F_readstanding.kp, b_readstanding⟩
  have D__law_thing : Def l.prog w K mg base 1 "_law_thing" ["word"] _ f_lawthing _ := ⟨ok_lthing F_lawthing m_int m_len, g_lawthing, F_lawthing.kp, b_lawthing⟩
  have D__law_due : Def l.prog w K mg base 2 "_law_due" ["board", "text"] _ f_lawdue _ := ⟨ok_due F_lawdue D__law_cells D__law_thing m_range m_len m_int m_tuple, g_lawdue, F_lawdue.kp, b_lawdue⟩
  have D__law_told : Def l.prog w K mg base 5 "_law_told" ["board", "text"] _ f_lawtold _ := ⟨ok_told F_lawtold D_read_standing T_NoStanding gX_NoStanding, g_lawtold, F_lawtold.kp, b_lawtold⟩
  have D__law_signs : Def l.prog w K mg base 1 "_law_signs" [] _ f_lawsigns _ := ⟨ok_signs F_lawsigns m_list, g_lawsigns, F_lawsigns.kp, b_lawsigns⟩
  exact ok_law F_law D__law_pot D__law_dip D__law_cells D__law_signs D__law_told D__law_due m_range m_max m_min m_len m_repr m_int
end L_k58
open PySem PySem.W PyProof.Rows
set_option maxHeartbeats 0 in
theorem PySem.Challenge.cw_stridelots_k58_signs_of_names_holds : PySem.Challenge.rw_stridelots_k58_signs_of_names.Holds := by
  w_on; o_law; k_head; (case hw => w_witness2)
  k_fill
  refine Lot.walk_g (l := PySem.Challenge.rw_stridelots_k58_signs_of_names) (n := 63) (k := 6) (x := "script") (CX := fun _ => L2.CX0) (sp := fun w => L_k58.spLaw _) rfl (by decide) rfl ⟨rfl, by decide, by decide⟩ (fun w h Y => PySem.W.kIn_of Y) ?F (fun _ _ a ns hl _ hS => ⟨a, ns, rfl, hS, hl, fun _ => rfl⟩) (fun _ _ _ _ _ h => h)
  case F =>
    intro w mg fa h KX G hmg
    refine' L_k58.all_mk KX G hmg ?a_highandwide ?l_highandwide ?c_highandwide ?k_highandwide ?a_readstanding ?l_readstanding ?c_readstanding ?k_readstanding ?a_isname ?l_isname ?c_isname ?k_isname ?a_isdue ?l_isdue ?c_isdue ?k_isdue ?a_thingof ?l_thingof ?c_thingof ?k_thingof ?a_lawpot ?l_lawpot ?c_lawpot ?k_lawpot ?a_lawdip ?l_lawdip ?c_lawdip ?k_lawdip ?a_lawcells ?l_lawcells ?c_lawcells ?k_lawcells ?a_lawthing ?l_lawthing ?c_lawthing ?k_lawthing ?a_lawdue ?l_lawdue ?c_lawdue ?k_lawdue ?a_lawtold ?l_lawtold ?c_lawtold ?k_lawtold ?a_lawsigns ?l_lawsigns ?c_lawsigns ?k_lawsigns ?a_law ?l_law ?c_law ?k_law ?z_range ?z_max ?z_min ?z_len ?z_int ?z_list ?z_tuple ?z_all ?z_enumerate ?z_repr ?g_MOST_LETTERS ?g_LETTERS ?a_NoStanding ?x_NoStanding ?hbm_NoStanding ?sa_NoStanding ?ga_NoStanding ?gg_NoStanding ?no_NoStanding ?iC_NoStanding ?tI_NoStanding ?kC_NoStanding ?eC_NoStanding ?vE_NoStanding ?tC_NoStanding ?hD_NoStanding ?cI_NoStanding ?sC_NoStanding ?op_NoStanding ?mr_NoStanding ?su_NoStanding ?ns_NoStanding ?fn_NoStanding ?cd_NoStanding ?co_NoStanding ?vf_NoStanding ?fi_NoStanding ?ce_NoStanding ?tp_NoStanding
    (case a_highandwide => k_is); (case l_highandwide => k_is); (case c_highandwide => k_is); (case k_highandwide => k_is); (case a_readstanding => k_is); (case l_readstanding => k_is); (case c_readstanding => k_is); (case k_readstanding => k_is); (case a_isname => k_is); (case l_isname => k_is); (case c_isname => k_is); (case k_isname => k_is); (case a_isdue => k_is); (case l_isdue => k_is); (case c_isdue => k_is); (case k_isdue => k_is); (case a_thingof => k_is); (case l_thingof => k_is); (case c_thingof => k_is); (case k_thingof => k_is); (case a_lawpot => k_is); (case l_lawpot => k_is); (case c_lawpot => k_is); (case k_lawpot => k_is); (case a_lawdip => k_is); (case l_lawdip => k_is); (case c_lawdip => k_is); (case k_lawdip => k_is); (case a_lawcells => k_is); (case l_lawcells => k_is); (case c_lawcells => k_is); (case k_lawcells => k_is); (case a_lawthing => k_is); (case l_lawthing => k_is); (case c_lawthing => k_is); (case k_lawthing => k_is); (case a_lawdue => k_is); (case l_lawdue => k_is); (case c_lawdue => k_is); (case k_lawdue => k_is); (case a_lawtold => k_is); (case l_lawtold => k_is); (case c_lawtold => k_is); (case k_lawtold => k_is); (case a_lawsigns => k_is); (case l_lawsigns => k_is); (case c_lawsigns => k_is); (case k_lawsigns => k_is); (case a_law => k_is); (case l_law => k_is); (case c_law => k_is); (case k_law => k_is); (case z_range => k_is); (case z_max => k_is); (case z_min => k_is); (case z_len => k_is); (case z_int => k_is); (case z_list => k_is); (case z_tuple => k_is); (case z_all => k_is); (case z_enumerate => k_is); (case z_repr => k_is); (case g_MOST_LETTERS => k_is); (case g_LETTERS => k_is); (case a_NoStanding => k_is); (case x_NoStanding => k_is); (case hbm_NoStanding => first | rfl | decide +kernel); (case sa_NoStanding => k_is); (case ga_NoStanding => k_is); (case gg_NoStanding => k_is); (case no_NoStanding => k_is); (case iC_NoStanding => k_is); (case tI_NoStanding => k_is); (case kC_NoStanding => k_is); (case eC_NoStanding => k_is); (case vE_NoStanding => k_is); (case tC_NoStanding => k_is); (case hD_NoStanding => k_is); (case cI_NoStanding => k_is); (case sC_NoStanding => first | rfl | k_is); (case op_NoStanding => k_is); (case mr_NoStanding => k_is); (case su_NoStanding => ks_is); (case ns_NoStanding => k_is); (case fn_NoStanding => k_is); (case cd_NoStanding => k_is); (case co_NoStanding => k_is); (case vf_NoStanding => first | rfl | decide +kernel); (case fi_NoStanding => first | rfl | decide +kernel); (case ce_NoStanding => k_is); (case tp_NoStanding => first | rfl | decide +kernel)

