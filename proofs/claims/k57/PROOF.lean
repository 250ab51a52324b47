import PyProof.Rows.All
import Wide.All
import OpenK.AllK
import Wide.FinOn
import PySem.Challenge.RW_stridelots_k57_refusals_made
import HandS.Base
import HandS.Call
import HandS.List
import HandS.Comp
import HandS.Ends
import HandS.Dict
import HandS.Iter
import HandS.Text
import HandS.Words
import HandS.WordsList
import HandS.Wide
import HandS.FStr
import PyProof.StrOps2
import HandS.Codes
import HandS.Walk
import PyProof.ReprRoads
import HandS.FStrTup
import KE.KExcSuper
import HandS.ExcInit
import HandS.ExcOwn
import HandS.ExcSuper
import HandS.ForExc
import HandS.WordsExc
import HandS.TryOnly
import PyProof.ListStr
import HandS.Conv
import HandS.TupAny
import HandS.IsInst
import HandS.ExcValue
import KE.KExcIs
import KE.KExcStr
set_option Elab.async false
set_option linter.all false
set_option maxRecDepth 100000
set_option maxHeartbeats 4000000
/-! Common to all rows: powers of great ints, heaps that keep all but one place, pots. -/
namespace Lot
open PySem PySem.Spec PyProof.Rows L2
theorem iteP {b : Bool} {A B : Prop} (hb : b = true) (h : A) : if b = true then A else B := by
  rw [if_pos hb]; exact h
theorem iteN {b : Bool} {A B : Prop} (hb : b = false) (h : B) : if b = true then A else B := by
  rw [hb, if_neg Bool.false_ne_true]; exact h
/-! ### powers -/
def CPowW (i j : Int) : Prop := 0 ≤ j ∧ j ≤ 10 ∧ i.natAbs < 2 ^ 200
theorem CPowW.bits {i j : Int} (h : CPowW i j) : (Builtin.Int.intBits i : Int) * j ≤ 2 ^ 27 := by
  obtain ⟨h0, h1, h2⟩ := h
  have hb : Builtin.Int.intBits i ≤ 201 := by
    unfold Builtin.Int.intBits
    have := PySem.Flt.log2_lt_of (by decide : 0 < 200) h2
    split <;> omega
  have h3 : (Builtin.Int.intBits i : Int) * j ≤ 201 * j := Int.mul_le_mul_of_nonneg_right (by omega) h0
  omega
theorem op_powW {X : Cx} : OpR X (binaryOp .Pow) (rI CPowW fun i j => .int (i ^ j.toNat)) := opI fun _ _ _ _ _ _ _ hc q => pow_int hc.1 hc.bits q
/-! ### heaps -/
theorem same_upd {H : Hp} {p : Addr} {o : HO} (h : H p = none) : Same H (upd H p o) := fun b x e => by
  rw [upd_ne (ne_of_none e h)]
  exact e
/-- all that is tracked stays, but for p -/
def But (p : Addr) (H H' : Hp) : Prop := ∀ b o, b ≠ p → H b = some o → H' b = some o
theorem But.refl {p : Addr} {H : Hp} : But p H H := fun _ _ _ h => h
theorem But.trans {p : Addr} {H H1 H2 : Hp} (a : But p H H1) (b : But p H1 H2) : But p H H2 := fun c o n h => b c o n (a c o n h)
theorem But.upd {p : Addr} {H : Hp} {o : HO} : But p H (upd H p o) := fun b x n e => by
  rw [upd_ne n]
  exact e
theorem But.of_same {p : Addr} {H H' : Hp} (h : Same H H') : But p H H' := fun b o _ e => h b o e
theorem But.seq {K : PySem.W.Frag} {p : Addr} {H H' : Hp} {a : Addr} {xs : List V} (e : But p H H') (n : a ≠ p) (h : SqL K H a xs) : SqL K H' a xs := by
  rcases h with (h | ⟨o, h⟩) | h
  · exact .inl (.inl (e _ _ n h))
  · exact .inl (.inr ⟨o, e _ _ n h⟩)
  · exact .inr h
/-! ### pots -/
def PotV (N : Nat) (vs : List V) : Prop := ∃ a c n : Int, vs = [.int a, .int c, .int n] ∧ 0 ≤ a ∧ 0 ≤ c ∧ c < 10 ^ 39 ∧ 0 ≤ n ∧ n ≤ (N : Int)
/-- at p stands a pot of which at most N draws were taken -/
def PotAt (H : Hp) (p : Addr) (N : Nat) : Prop := ∃ vs, H p = some (.lst vs) ∧ PotV N vs
theorem PotV.mono {N M : Nat} {vs : List V} (h : PotV N vs) (le : N ≤ M) : PotV M vs := by
  obtain ⟨a, c, n, e, h1, h2, h3, h4, h5⟩ := h
  exact ⟨a, c, n, e, h1, h2, h3, h4, by omega⟩
theorem PotAt.mono {H : Hp} {p : Addr} {N M : Nat} (h : PotAt H p N) (le : N ≤ M) : PotAt H p M := by
  obtain ⟨vs, e, h⟩ := h
  exact ⟨vs, e, h.mono le⟩
theorem PotAt.same {H H' : Hp} {p : Addr} {N : Nat} (h : PotAt H p N) (s : Same H H') : PotAt H' p N := by
  obtain ⟨vs, e, h⟩ := h
  exact ⟨vs, s _ _ e, h⟩
theorem PotAt.ne {H : Hp} {p : Addr} {N : Nat} (h : PotAt H p N) {q : Addr} (e : H q = none) : q ≠ p := fun z => by
  obtain ⟨vs, f, _⟩ := h
  rw [z] at e; rw [e] at f; cases f
theorem PotAt.upd {H : Hp} {p : Addr} {N : Nat} {vs : List V} (h : PotV N vs) : PotAt (L2.upd H p (.lst vs)) p N := ⟨vs, upd_same, h⟩
theorem PotAt.updne {H : Hp} {p q : Addr} {N : Nat} {o : HO} (h : PotAt H p N) (n : p ≠ q) : PotAt (L2.upd H q o) p N := by
  obtain ⟨vs, e, h⟩ := h
  exact ⟨vs, by rw [upd_ne n]; exact e, h⟩
theorem int_lt_pow {i : Int} {k : Nat} (h0 : 0 ≤ i) (h : i < 2 ^ k) : i.natAbs < 2 ^ k := by
  have e : ((i.natAbs : Nat) : Int) = i := Int.natAbs_of_nonneg h0
  have h2 : ((i.natAbs : Nat) : Int) < ((2 ^ k : Nat) : Int) := by
    rw [e, Int.natCast_pow]; exact h
  exact Int.ofNat_lt.mp h2
theorem modlt {a b : Int} (h : 0 < b) : 0 ≤ a % b ∧ a % b < b := ⟨Int.emod_nonneg _ (by omega), Int.emod_lt_of_pos _ h⟩
/-! ### boards -/
inductive Bd where
  | row (n : Nat) | ring (n : Nat) | floor (h w : Nat)
def Bd.vals : Bd → List V
  | .row n => [.str "row", .int n]
  | .ring n => [.str "ring", .int n]
  | .floor h w => [.str "floor", .int h, .int w]
def Bd.Ok (most : Nat) : Bd → Prop
  | .row n => 3 ≤ n ∧ n ≤ most
  | .ring n => 5 ≤ n ∧ n ≤ most
  | .floor h w => 1 ≤ h ∧ 1 ≤ w ∧ h * w ≤ most
def Bd.high : Bd → Nat
  | .floor h _ => h
  | _ => 1
def Bd.wide : Bd → Nat
  | .row n => n
  | .ring n => n
  | .floor _ w => w
def Bd.cells (b : Bd) : Nat := b.high * b.wide
/-! ### a def of the text, ready to be called -/
structure Def (P : Program) (w : World) (K : PySem.W.Frag) (mg : Str → Option Value) (base : Heap) (k : Nat) (x : Str) (ps : List Str) (sp : Sp) (f : Addr) (fd : FuncData) : Prop where
  ok : FnOk P w K mg base CX0 k f fd ps sp
  g : mg x = some (.ref f)
  kp : PySem.W.keepIn K (.ref f) = true
  b : Binds K fd ps []
end Lot
namespace Lot
open PySem PySem.Spec PyProof.Rows L2
theorem same_new {H H' : Hp} {D : Addr} {o : HO} (s : Same H H') (n : H D = none) : Same H (upd H' D o) := fun b x e => by
  rw [upd_ne (ne_of_none e n)]
  exact s _ _ e
theorem But.new {p : Addr} {H H' : Hp} {D : Addr} {o : HO} (s : But p H H') (n : H D = none) : But p H (L2.upd H' D o) := fun b x hb e => by
  rw [upd_ne (ne_of_none e n)]
  exact s _ _ hb e
/-- an object that is not the pot's stood nowhere before -/
theorem But.free {p : Addr} {H H' : Hp} {b : Addr} (B : But p H H') (hb : b ≠ p) (h : H' b = none) : H b = none := by
  cases z : H b with
  | none => rfl
  | some o => rw [B b o hb z] at h; cases h
theorem PotAt.is {H : Hp} {p : Addr} {N : Nat} (h : PotAt H p N) : ∃ vs, H p = some (.lst vs) := by
  obtain ⟨vs, e, _⟩ := h
  exact ⟨vs, e⟩
theorem perm_erase {α : Type} : ∀ {l : List α} {k : Nat} {x : α}, l[k]? = some x → List.Perm (x :: l.eraseIdx k) l
  | [], k, x, h => by simp at h
  | a :: l, 0, x, h => by
    have e : a = x := Option.some.inj h
    subst e
    exact List.Perm.refl _
  | a :: l, k + 1, x, h => by
    have ih := perm_erase (l := l) (k := k) (x := x) h
    show List.Perm (x :: a :: l.eraseIdx k) (a :: l)
    exact (List.Perm.swap _ _ _).trans (List.Perm.cons a ih)
/-! ### things -/
def thing (t : Str × Nat) : List V := [.str t.1, .int t.2]
def Things (H : Hp) : List Addr → List (Str × Nat) → Prop
  | [], [] => True
  | a :: as, t :: ts => H a = some (.tup (thing t)) ∧ Things H as ts
  | _, _ => False
theorem Things.same {H H' : Hp} (s : Same H H') : ∀ {as : List Addr} {ts : List (Str × Nat)}, Things H as ts → Things H' as ts
  | [], [], _ => trivial
  | a :: as, t :: ts, h => ⟨s _ _ h.1, Things.same s h.2⟩
  | [], _ :: _, h => h.elim
  | _ :: _, [], h => h.elim
theorem Things.but {p : Addr} {H H' : Hp} (s : But p H H') (hp : ∃ vs, H p = some (.lst vs)) : ∀ {as : List Addr} {ts : List (Str × Nat)}, Things H as ts → Things H' as ts
  | [], [], _ => trivial
  | a :: as, t :: ts, h => ⟨s _ _ (fun z => by
      obtain ⟨vs, e⟩ := hp
      have := h.1
      rw [z, e] at this
      cases this) h.1, Things.but s hp h.2⟩
  | [], _ :: _, h => h.elim
  | _ :: _, [], h => h.elim
theorem Things.length {H : Hp} : ∀ {as : List Addr} {ts : List (Str × Nat)}, Things H as ts → as.length = ts.length
  | [], [], _ => rfl
  | a :: as, t :: ts, h => by
    rw [List.length_cons, List.length_cons, Things.length h.2]
  | [], _ :: _, h => h.elim
  | _ :: _, [], h => h.elim
theorem Things.get {H : Hp} : ∀ {as : List Addr} {ts : List (Str × Nat)} {i : Nat} {t : Str × Nat}, Things H as ts → ts[i]? = some t → ∃ a, as[i]? = some a ∧ H a = some (.tup (thing t))
  | [], [], i, t, _, e => by simp at e
  | a :: as, u :: ts, 0, t, h, e => by
    have e' : u = t := Option.some.inj e
    subst e'
    exact ⟨a, rfl, h.1⟩
  | a :: as, u :: ts, i + 1, t, h, e => Things.get (i := i) h.2 e
  | [], _ :: _, _, _, h, _ => h.elim
  | _ :: _, [], _, _, h, _ => h.elim
theorem Things.snoc {H : Hp} {b : Addr} {u : Str × Nat} (hb : H b = some (.tup (thing u))) : ∀ {as : List Addr} {ts : List (Str × Nat)}, Things H as ts → Things H (as ++ [b]) (ts ++ [u])
  | [], [], _ => ⟨hb, trivial⟩
  | a :: as, t :: ts, h => ⟨h.1, Things.snoc hb h.2⟩
  | [], _ :: _, h => h.elim
  | _ :: _, [], h => h.elim
/-- a standing at t: its things -/
def StandAt (H : Hp) (t : Addr) (ths : List (Str × Nat)) : Prop := ∃ as : List Addr, H t = some (.tup (as.map V.ref)) ∧ Things H as ths
theorem StandAt.same {H H' : Hp} {t : Addr} {ths : List (Str × Nat)} (h : StandAt H t ths) (s : Same H H') : StandAt H' t ths := by
  obtain ⟨as, e, g⟩ := h
  exact ⟨as, s _ _ e, g.same s⟩
theorem StandAt.but {p : Addr} {H H' : Hp} {t : Addr} {ths : List (Str × Nat)} (h : StandAt H t ths) (s : But p H H') (hp : ∃ vs, H p = some (.lst vs)) : StandAt H' t ths := by
  obtain ⟨as, e, g⟩ := h
  refine ⟨as, s _ _ (fun z => ?_) e, g.but s hp⟩
  obtain ⟨vs, f⟩ := hp
  rw [z, f] at e
  cases e
end Lot
namespace Lot
open PySem PySem.Spec PyProof.Rows L2
theorem same_but {p : Addr} {H H1 H2 : Hp} (s : Same H H1) (hp : H p = none) (b : But p H1 H2) : Same H H2 := fun c o e => b c o (ne_of_none e hp) (s _ _ e)
theorem Bd.cells_le {bd : Bd} (ok : bd.Ok 36) : 1 ≤ bd.cells ∧ bd.cells ≤ 36 := by
  cases bd with
  | row n => rw [show (Bd.row n).cells = n from Nat.one_mul n]; exact ⟨by have := ok.1; omega, ok.2⟩
  | ring n => rw [show (Bd.ring n).cells = n from Nat.one_mul n]; exact ⟨by have := ok.1; omega, ok.2⟩
  | floor h w => exact ⟨Nat.mul_pos ok.1 ok.2.1, ok.2.2⟩
/-- a side of three cells at least -/
def Bd.Has : Bd → Prop
  | .floor h w => 3 ≤ h ∨ 3 ≤ w
  | _ => True
end Lot

namespace Lot
open PySem PySem.Spec PyProof.Rows L2
/-! ### texts many times -/
def rRepS : R2 := fun x y H Q => ∃ (z : Str) (k : Int), x = .str z ∧ y = .int k ∧ 0 ≤ k ∧ k ≤ 1000 ∧ z.length ≤ 1000 ∧ ∀ r : Str, r.cps.toList = (List.replicate k.toNat z.cps.toList).flatten → Q (.str r) H
theorem foldl_arr : ∀ (l : List (Array Nat)) (a : Array Nat), (l.foldl (· ++ ·) a).toList = a.toList ++ (l.map (·.toList)).flatten
  | [], a => by simp
  | x :: l, a => by
    rw [List.foldl_cons, foldl_arr l (a ++ x)]
    simp [List.append_assoc]
theorem op_repS {X : Cx} : OpR X (binaryOp .Mult) rRepS := by
  intro pins s σ H x y v u Q I rx ry h
  obtain ⟨z, k, rfl, rfl, h0, h1, hz, q⟩ := h
  obtain ⟨t, rfl⟩ := rx
  obtain ⟨t', rfl⟩ := ry
  refine PySem.P.mul_str ?_ ?_ ?_ ?_
  · rw [decide_eq_false (by omega), decide_eq_false (by omega)]; rfl
  · intro a _ b
    have : (2 ^ 63 - 1 : Int) / k ≥ 1000 := by
      have := (Int.le_ediv_iff_mul_le (a := 1000) (b := 2 ^ 63 - 1) (c := k) (by omega)).mpr (by omega)
      omega
    omega
  · intro _ _
    unfold Builtin.Str.tooLong
    have e : z.length * k.toNat ≤ 1000 * 1000 := Nat.mul_le_mul hz (by omega)
    have e2 : 1000 * 1000 < sizeLine := by decide
    simp only [decide_eq_false_iff_not]
    omega
  · by_cases c : k < 1
    · rw [if_pos c]
      refine ⟨by decide, .str Str.empty, H, I.tok _, ⟨_, rfl⟩, q _ ?_⟩
      have : k.toNat = 0 := by omega
      rw [this]
      rfl
    · rw [if_neg c]
      by_cases c2 : (k == 1 || z.length == 0) = true
      · rw [if_pos c2]
        refine ⟨.str z, H, I, ⟨t, rfl⟩, q _ ?_⟩
        rw [Bool.or_eq_true] at c2
        rcases c2 with c2 | c2
        · have : k = 1 := by simpa using c2
          subst this
          show z.cps.toList = (List.replicate 1 z.cps.toList).flatten
          simp
        · have : z.cps.toList = [] := by
            have : z.cps.size = 0 := by simpa [Str.length] using c2
            exact List.eq_nil_of_length_eq_zero (by simpa using this)
          rw [this]
          simp
      · rw [if_neg c2]
        refine ⟨?_, .str ⟨(List.replicate k.toNat z.cps).foldl (· ++ ·) #[]⟩, H, I.tok _, ⟨_, rfl⟩, q _ ?_⟩
        · have e : (⟨(List.replicate k.toNat z.cps).foldl (· ++ ·) #[]⟩ : Str).length = k.toNat * z.length := by
            show ((List.replicate k.toNat z.cps).foldl (· ++ ·) #[]).size = _
            rw [← Array.length_toList, foldl_arr]
            have hz : z.length = z.cps.toList.length := by simp [Str.length]
            rw [hz]
            have : ∀ n : Nat, ((#[] : Array Nat).toList ++ ((List.replicate n z.cps).map (·.toList)).flatten).length = n * z.cps.toList.length := fun n => by
              induction n with
              | zero => simp
              | succ n ih =>
                rw [List.replicate_succ, List.map_cons, List.flatten_cons, Nat.succ_mul, ← ih]
                simp
                omega
            exact this _
          rw [e]
          have e : k.toNat * z.length ≤ 1000 * 1000 := Nat.mul_le_mul (by omega) hz
          have e2 : 1000 * 1000 < sizeLine := by decide
          omega
        · rw [foldl_arr]
          simp
/-! ### names -/
/-- as a name: n letters a to z -/
def Abc (n : Nat) (z : Str) : Prop := z.length = n ∧ ∀ c ∈ z.cps.toList, 97 ≤ c ∧ c ≤ 122
theorem Abc.app {n m : Nat} {a b : Str} (h : Abc n a) (g : Abc m b) : Abc (n + m) (a ++ b) := by
  refine ⟨?_, ?_⟩
  · show (a.cps ++ b.cps).size = _
    rw [Array.size_append]
    have h1 : a.cps.size = n := h.1
    have g1 : b.cps.size = m := g.1
    omega
  · intro c hc
    have : c ∈ (a.cps ++ b.cps).toList := hc
    rw [Array.toList_append, List.mem_append] at this
    exact this.elim (h.2 c) (g.2 c)
theorem Abc.rep {n k : Nat} {a r : Str} (h : Abc n a) (e : r.cps.toList = (List.replicate k a.cps.toList).flatten) : Abc (n * k) r := by
  have h1 : a.cps.toList.length = n := by simpa [Str.length] using h.1
  refine ⟨?_, ?_⟩
  · show r.cps.size = _
    rw [← Array.length_toList, e]
    clear e
    induction k with
    | zero => rfl
    | succ k ih => rw [List.replicate_succ, List.flatten_cons, List.length_append, ih, h1, Nat.mul_succ, Nat.add_comm]
  · intro c hc
    rw [e] at hc
    obtain ⟨l, hl, hc⟩ := List.mem_flatten.mp hc
    exact h.2 c ((List.mem_replicate.mp hl).2 ▸ hc)
theorem Abc.one {c : Nat} (h1 : 97 ≤ c) (h2 : c ≤ 122) : Abc 1 ⟨#[c]⟩ := ⟨rfl, fun d hd => by
  have : d = c := by simpa using hd
  omega⟩
def NameOk (z : Str) : Prop := 1 ≤ z.length ∧ z.length ≤ 4 ∧ ∀ c ∈ z.cps.toList, 97 ≤ c ∧ c ≤ 122
theorem Abc.name {n : Nat} {z : Str} (h : Abc n z) (h1 : 1 ≤ n) (h4 : n ≤ 4) : NameOk z := ⟨by rw [h.1]; exact h1, by rw [h.1]; exact h4, h.2⟩
/-- the letters -/
def abc : Str := "abcdefghijklmnopqrstuvwxyz"
theorem abc_list : abc.cps.toList = (List.range 26).map (97 + ·) := by decide +kernel
theorem abc_len : abc.length = 26 := by decide +kernel
theorem abc_at {i : Int} (h0 : 0 ≤ i) (h1 : i < 26) : atI abc.cps.toList i = some (97 + i.toNat) := by
  have e : i = ((i.toNat : Nat) : Int) := (Int.toNat_of_nonneg h0).symm
  rw [e]
  refine atI_nat ?_
  rw [abc_list, List.getElem?_map, List.getElem?_range (by omega)]
  rfl
end Lot
namespace Lot
open PySem PySem.Spec PyProof.Rows L2
theorem abc_cut : ∀ s : Nat, s < 26 → cutS abc (some (s : Int)) (some ((s : Int) + 1)) = ⟨#[97 + s]⟩ := by decide +kernel
theorem Abc.le2 {n m : Nat} {a b : Str} (h : Abc n a) (g : Abc m b) (l : n + m ≤ 1000) : a.length + b.length ≤ sizeLine := by
  rw [h.1, g.1]
  exact Nat.le_of_lt (small1000 l)
end Lot
/-! ### rules in a comprehension's block: what is written (K) said by the def's own name -/
namespace Lot
open PySem PySem.Spec PyProof.Rows L2
section
variable {X : Cx} {K : PySem.W.Frag}
theorem pe_bmK {T : String} {e : Expr} {to : TE} {t : TA} {r : V → List V → Hp → VK → Prop} (hK : X.K = K) (h : PE X e (tBM X.K T r to t)) : PE X e (tBM K T r to t) := hK ▸ h
def rJoinK (K : PySem.W.Frag) : V → List V → Hp → VK → Prop := fun x xs H Q => ∃ a p, ∃ ys : List Str, x = .str a ∧ xs = [.ref p] ∧ (SqL K H p (ys.map V.str) ∨ SqT K H p (ys.map V.str)) ∧
  (ys.map (·.length)).sum + ys.length * a.length ≤ 16777216 ∧ Q (.str (Txt.join a ys)) H
theorem pe_joinK {e : Expr} {to te : TE} (hK : X.K = K) (h : PE X e (tM1 (rJoinK X.K) to te)) : PE X e (tM1 (rJoinK K) to te) := hK ▸ h
theorem sl_listK (hK : X.K = K) : SlR X (rSlL K) := hK ▸ sl_list
theorem sl_tupK (hK : X.K = K) : SlR X (rSlT K) := hK ▸ sl_tup
def rLenK (K : PySem.W.Frag) : List V → Hp → VK → Prop := fun xs H Q => ∃ p ys, xs = [.ref p] ∧ (SqL K H p ys ∨ SqT K H p ys) ∧ Q (.int ys.length) H
theorem call_len_seqK (hK : X.K = K) : CallR X (.builtin "len") (rLenK K) := hK ▸ call_len_seq
theorem op_eqDK (hK : X.K = K) (hu : X.A.units + 64 < cLine) : OpR X (compareOp .Eq) (rEqD K) := hK ▸ op_eqD hu
theorem op_neDK (hK : X.K = K) (hu : X.A.units + 64 < cLine) : OpR X (compareOp .NotEq) (rNeD K) := hK ▸ op_neD hu
theorem ix_listK (hK : X.K = K) : IxR X (rIxL K) := hK ▸ ix_list
theorem ix_tupK (hK : X.K = K) : IxR X (rIxT K) := hK ▸ ix_tup
end
end Lot
namespace Lot
open PySem PySem.Spec PyProof.Rows L2
theorem seqIx {n r : Nat} (h : r < n) : seqIndex? (r : Int) n = some r := by
  refine (ixN_seq ?_).1
  unfold ixN
  rw [if_pos (by omega), if_pos (by omega)]
  rfl
end Lot

/-! Standings as texts: the mathematics. -/
namespace Lot
open PySem PySem.Spec PyProof.Rows L2
abbrev slash : Str := Str.ofString "/"
def Bd.edge (bd : Bd) (i : Nat) : Bool := match bd with
  | .floor _ w => decide (0 < i) && decide (i % w = 0)
  | _ => false
def dash (f : Nat) : Str := if f = 0 then "" else "-"
def word (th : Str × Nat) : Str := dash th.2 ++ th.1
def cellWords (bd : Bd) (i : Nat) (th : Str × Nat) : List Str := (if bd.edge i then [slash] else []) ++ [word th]
def wordsFrom (bd : Bd) : Nat → List (Str × Nat) → List Str
  | _, [] => []
  | i, th :: r => cellWords bd i th ++ wordsFrom bd (i + 1) r
theorem wordsFrom_app (bd : Bd) : ∀ (xs ys : List (Str × Nat)) (i : Nat), wordsFrom bd i (xs ++ ys) = wordsFrom bd i xs ++ wordsFrom bd (i + xs.length) ys
  | [], ys, i => by simp [wordsFrom]
  | x :: xs, ys, i => by
    show cellWords bd i x ++ wordsFrom bd (i + 1) (xs ++ ys) = (cellWords bd i x ++ wordsFrom bd (i + 1) xs) ++ _
    rw [wordsFrom_app bd xs ys (i + 1), List.append_assoc, List.length_cons]
    rw [show i + 1 + xs.length = i + (xs.length + 1) by omega]
theorem wordsFrom_take (bd : Bd) {ths : List (Str × Nat)} {i : Nat} {th : Str × Nat} (h : ths[i]? = some th) : wordsFrom bd 0 (ths.take (i + 1)) = wordsFrom bd 0 (ths.take i) ++ cellWords bd i th := by
  have hi : i < ths.length := (List.getElem?_eq_some_iff.mp h).1
  rw [List.take_add_one, h, wordsFrom_app]
  have e : (ths.take i).length = i := by rw [List.length_take]; omega
  rw [e, Nat.zero_add]
  show _ ++ (cellWords bd i th ++ []) = _
  rw [List.append_nil]
/-- the text of a standing -/
def textOf (bd : Bd) (ths : List (Str × Nat)) : Str := Str.join " " (wordsFrom bd 0 ths)
/-- names that stand: faces 0, 1 -/
def ThOk (th : Str × Nat) : Prop := NameOk th.1 ∧ th.2 < 2
theorem str_app_len (a b : Str) : (a ++ b).length = a.length + b.length := by
  show (a.cps ++ b.cps).size = _
  rw [Array.size_append]; rfl
theorem word_len {th : Str × Nat} (h : ThOk th) : (word th).length ≤ 5 := by
  have e : (word th).length = (dash th.2).length + th.1.length := str_app_len _ _
  have h1 : (dash th.2).length ≤ 1 := by
    unfold dash
    split <;> decide
  have := h.1.2.1
  omega
theorem words_ok (bd : Bd) : ∀ (ths : List (Str × Nat)) (i : Nat), (∀ th ∈ ths, ThOk th) → (∀ z ∈ wordsFrom bd i ths, z.length ≤ 5) ∧ (wordsFrom bd i ths).length ≤ 2 * ths.length
  | [], i, _ => ⟨(fun z hz => by cases hz), Nat.le_refl _⟩
  | th :: r, i, h => by
    have ih := words_ok bd r (i + 1) fun t ht => h t (List.mem_cons_of_mem _ ht)
    have hw := word_len (h th List.mem_cons_self)
    refine ⟨fun z hz => ?_, ?_⟩
    · rcases List.mem_append.mp hz with hz | hz
      · rcases List.mem_append.mp hz with hz | hz
        · split at hz
          · rw [List.mem_singleton.mp hz]; decide
          · cases hz
        · rw [List.mem_singleton.mp hz]; exact hw
      · exact ih.1 z hz
    · show (((if bd.edge i then [slash] else []) ++ [word th]) ++ wordsFrom bd (i + 1) r).length ≤ _
      rw [List.length_append, List.length_append]
      have h2 : (th :: r).length = r.length + 1 := rfl
      have : (if bd.edge i then ([slash] : List Str) else []).length ≤ 1 := by split <;> decide
      have h1 : [word th].length = 1 := rfl
      omega
theorem sum_len {ys : List Str} {m : Nat} (h : ∀ z ∈ ys, z.length ≤ m) : (ys.map (·.length)).sum ≤ ys.length * m := by
  induction ys with
  | nil => simp
  | cons y r ih =>
    have := ih fun z hz => h z (List.mem_cons_of_mem _ hz)
    have := h y List.mem_cons_self
    rw [List.map_cons, List.sum_cons, List.length_cons, Nat.succ_mul]
    omega
theorem join_fits {ys : List Str} {m n k : Nat} (h : ∀ z ∈ ys, z.length ≤ m) (hn : ys.length ≤ n) (c : n * m + n * k ≤ 16777216) : (ys.map (·.length)).sum + ys.length * k ≤ 16777216 := by
  have h1 := sum_len h
  have h2 : ys.length * m ≤ n * m := Nat.mul_le_mul_right m hn
  have h3 : ys.length * k ≤ n * k := Nat.mul_le_mul_right k hn
  omega
/-! ### rows -/
theorem app_assoc (a b c : Str) : a ++ b ++ c = a ++ (b ++ c) := by
  show (⟨a.cps ++ b.cps ++ c.cps⟩ : Str) = ⟨a.cps ++ (b.cps ++ c.cps)⟩
  rw [Array.append_assoc]
theorem join_cons2 (s x y : Str) (r : List Str) : Str.join s (x :: y :: r) = x ++ s ++ Str.join s (y :: r) := rfl
theorem join_app (s : Str) : ∀ {xs ys : List Str}, xs ≠ [] → ys ≠ [] → Str.join s (xs ++ ys) = Str.join s xs ++ (s ++ Str.join s ys)
  | [], _, h, _ => absurd rfl h
  | [x], [], _, h => absurd rfl h
  | [x], y :: r, _, _ => by
    show Str.join s (x :: y :: r) = x ++ (s ++ Str.join s (y :: r))
    rw [join_cons2, app_assoc]
  | x :: z :: xs, ys, _, h => by
    show Str.join s (x :: z :: (xs ++ ys)) = _
    rw [join_cons2, join_cons2]
    have := join_app s (xs := z :: xs) (ys := ys) (by simp) h
    rw [show z :: (xs ++ ys) = (z :: xs) ++ ys from rfl, this]
    simp only [app_assoc]
/-- rows of words, a / between two -/
def glued : List (List Str) → List Str
  | [] => []
  | [r] => r
  | r :: q :: rs => r ++ (slash :: glued (q :: rs))
theorem glued_ne : ∀ {rows : List (List Str)}, rows ≠ [] → (∀ r ∈ rows, r ≠ []) → glued rows ≠ []
  | [], h, _ => absurd rfl h
  | [r], _, h => h r List.mem_cons_self
  | r :: q :: rs, _, h => by
    show r ++ _ ≠ []
    simp
theorem join_glued : ∀ {rows : List (List Str)}, rows ≠ [] → (∀ r ∈ rows, r ≠ []) → Str.join " " (glued rows) = Str.join " / " (rows.map (Str.join " "))
  | [], h, _ => absurd rfl h
  | [r], _, h => rfl
  | r :: q :: rs, _, h => by
    have hr := h r List.mem_cons_self
    have ih := join_glued (rows := q :: rs) (by simp) fun x hx => h x (List.mem_cons_of_mem _ hx)
    have hg := glued_ne (rows := q :: rs) (by simp) fun x hx => h x (List.mem_cons_of_mem _ hx)
    show Str.join " " (r ++ (slash :: glued (q :: rs))) = Str.join " / " (Str.join " " r :: Str.join " " q :: rs.map (Str.join " "))
    rw [join_app _ hr (by simp), join_cons2]
    have e2 : Str.join " / " (Str.join " " q :: rs.map (Str.join " ")) = Str.join " " (glued (q :: rs)) := ih.symm
    rw [e2]
    cases hgl : glued (q :: rs) with
    | nil => exact absurd hgl hg
    | cons y ys =>
      rw [join_cons2]
      have e3 : (" / " : Str) = (" " : Str) ++ ("/" ++ " ") := by decide +kernel
      rw [e3]
      simp only [app_assoc]
/-- the rows of a board's words: row r is the words from r * w on, w of them -/
def rowsOf (h w : Nat) (ws : List Str) : List (List Str) := (List.range h).map fun r => (ws.drop (r * w)).take w
theorem mod_in {k w j : Nat} (hj : j < w) (h0 : 0 < j) : (k * w + j) % w = j := by
  rw [Nat.mul_comm, Nat.mul_add_mod]
  exact Nat.mod_eq_of_lt hj
/-- within a row no edge -/
theorem words_row {h w k : Nat} (hw : 0 < w) : ∀ (ths : List (Str × Nat)) (j : Nat), 0 < j → j + ths.length ≤ w → wordsFrom (.floor h w) (k * w + j) ths = ths.map word
  | [], _, _, _ => rfl
  | th :: r, j, h0, hl => by
    rw [List.length_cons] at hl
    have e : (Bd.floor h w).edge (k * w + j) = false := by
      show (decide _ && decide ((k * w + j) % w = 0)) = false
      rw [mod_in (by omega) h0, Bool.and_eq_false_iff]
      exact .inr (decide_eq_false (by omega))
    show ((if (Bd.floor h w).edge (k * w + j) then _ else _) ++ [word th]) ++ wordsFrom (.floor h w) (k * w + j + 1) r = _
    rw [e, show k * w + j + 1 = k * w + (j + 1) by omega, words_row (k := k) hw r (j + 1) (by omega) (by omega)]
    rfl
theorem words_line {h w k : Nat} (hw : 0 < w) (th : Str × Nat) (r : List (Str × Nat)) (hl : r.length + 1 ≤ w) :
    wordsFrom (.floor h w) (k * w) (th :: r) = (if 0 < k then [slash] else []) ++ ((th :: r).map word) := by
  show ((if (Bd.floor h w).edge (k * w) then _ else _) ++ [word th]) ++ wordsFrom (.floor h w) (k * w + 1) r = _
  rw [words_row (k := k) hw r 1 (by omega) (by omega)]
  have e : (Bd.floor h w).edge (k * w) = decide (0 < k) := by
    show (decide (0 < k * w) && decide (k * w % w = 0)) = _
    rw [Nat.mul_mod_left]
    by_cases c : 0 < k
    · rw [decide_eq_true c, decide_eq_true (Nat.mul_pos c hw)]; rfl
    · have : k = 0 := by omega
      subst this
      simp
  rw [e]
  by_cases c : 0 < k
  · rw [decide_eq_true c, if_pos rfl, if_pos c]; rfl
  · rw [decide_eq_false c, if_neg (by decide), if_neg c]; rfl
theorem words_glued {h w : Nat} (hw : 0 < w) : ∀ (n k : Nat) (ths : List (Str × Nat)), ths.length = (n + 1) * w →
    wordsFrom (.floor h w) (k * w) ths = (if 0 < k then [slash] else []) ++ glued (rowsOf (n + 1) w (ths.map word))
  | n, k, ths, hl => by
    have hlw : w ≤ ths.length := by rw [hl, Nat.succ_mul]; omega
    have es : ths = ths.take w ++ ths.drop w := (List.take_append_drop w ths).symm
    have el : (ths.take w).length = w := by rw [List.length_take]; omega
    have first : wordsFrom (.floor h w) (k * w) (ths.take w) = (if 0 < k then [slash] else []) ++ (ths.take w).map word := by
      cases e : ths.take w with
      | nil => rw [e] at el; simp at el; omega
      | cons th r =>
        rw [e] at el
        exact words_line hw th r (by rw [List.length_cons] at el; omega)
    cases n with
    | zero =>
      have e0 : ths.take w = ths := List.take_of_length_le (by rw [hl]; omega)
      rw [e0] at first
      rw [first]
      congr 1
      show ths.map word = ((ths.map word).drop (0 * w)).take w
      rw [Nat.zero_mul, List.drop_zero, ← List.map_take, e0]
    | succ n =>
      have ih := words_glued (h := h) hw n (k + 1) (ths.drop w) (by rw [List.length_drop, hl, Nat.succ_mul (n + 1)]; omega)
      have er : rowsOf (n + 1 + 1) w (ths.map word) = (ths.take w).map word :: rowsOf (n + 1) w ((ths.drop w).map word) := by
        unfold rowsOf
        rw [List.range_succ_eq_map, List.map_cons, List.map_map]
        congr 1
        · rw [Nat.zero_mul, List.drop_zero, List.map_take]
        · refine List.map_congr_left fun r _ => ?_
          show ((ths.map word).drop ((r + 1) * w)).take w = (((ths.drop w).map word).drop (r * w)).take w
          rw [List.map_drop, List.drop_drop, Nat.succ_mul, Nat.add_comm (r * w) w]
      conv => lhs; rw [es, wordsFrom_app, el, show k * w + w = (k + 1) * w from (Nat.succ_mul k w).symm]
      rw [first, ih, if_pos (Nat.succ_pos k), er, List.append_assoc]
      congr 1
      cases e : rowsOf (n + 1) w ((ths.drop w).map word) with
      | nil =>
        unfold rowsOf at e
        rw [List.map_eq_nil_iff, List.range_eq_nil] at e
        omega
      | cons q rs => rfl
theorem words_plain (bd : Bd) (hb : ∀ i, bd.edge i = false) : ∀ (ths : List (Str × Nat)) (i : Nat), wordsFrom bd i ths = ths.map word
  | [], _ => rfl
  | th :: r, i => by
    show ((if bd.edge i then _ else _) ++ [word th]) ++ wordsFrom bd (i + 1) r = _
    rw [hb, words_plain bd hb r (i + 1)]
    rfl
theorem shown_is {bd : Bd} {ths : List (Str × Nat)} (ok : bd.Ok 36) (hl : ths.length = bd.cells) :
    Str.join " / " ((rowsOf bd.high bd.wide (ths.map word)).map (Str.join " ")) = textOf bd ths := by
  unfold textOf
  have plain : ∀ n, bd.high = 1 → bd.wide = n → (∀ i, bd.edge i = false) → bd.cells = n → Str.join " / " ((rowsOf bd.high bd.wide (ths.map word)).map (Str.join " ")) = Str.join " " (wordsFrom bd 0 ths) := fun n e1 e2 e3 e4 => by
    rw [e1, e2, words_plain bd e3]
    show Str.join " / " [Str.join " " (((ths.map word).drop (0 * n)).take n)] = _
    rw [Nat.zero_mul, List.drop_zero, List.take_of_length_le (by rw [List.length_map, hl, e4]; exact Nat.le_refl _)]
    rfl
  cases bd with
  | row n => exact plain n rfl rfl (fun _ => rfl) (Nat.one_mul n)
  | ring n => exact plain n rfl rfl (fun _ => rfl) (Nat.one_mul n)
  | floor h w =>
    obtain ⟨o1, o2, o3⟩ := ok
    obtain ⟨n, rfl⟩ : ∃ n, h = n + 1 := ⟨h - 1, by omega⟩
    have := words_glued (h := n + 1) o2 n 0 ths hl
    rw [Nat.zero_mul, if_neg (by decide), List.nil_append] at this
    rw [this]
    show Str.join " / " ((rowsOf (n + 1) w (ths.map word)).map (Str.join " ")) = _
    refine (join_glued ?_ ?_).symm
    · unfold rowsOf
      simp
    · intro r hr
      unfold rowsOf at hr
      obtain ⟨k, hk, rfl⟩ := List.mem_map.mp hr
      have hk' : k < n + 1 := List.mem_range.mp hk
      intro e
      have : (List.take w (List.drop (k * w) (ths.map word))).length = 0 := by rw [e]; rfl
      rw [List.length_take, List.length_drop, List.length_map, hl] at this
      have h2 : (k + 1) * w ≤ (n + 1) * w := Nat.mul_le_mul_right w hk'
      have h3 : (Bd.floor (n + 1) w).cells = (n + 1) * w := rfl
      rw [Nat.succ_mul] at h2
      omega
end Lot
namespace Lot
open PySem PySem.Spec PyProof.Rows L2
theorem join_len (s : Str) : ∀ ys : List Str, (Str.join s ys).length ≤ (ys.map (·.length)).sum + ys.length * s.length
  | [] => Nat.zero_le _
  | [x] => by
    show x.length ≤ (x.length + 0) + _
    omega
  | x :: y :: r => by
    have ih := join_len s (y :: r)
    rw [join_cons2, str_app_len, str_app_len, List.map_cons, List.sum_cons, List.length_cons, Nat.succ_mul]
    omega
theorem join_le {s : Str} {ys : List Str} {m n k : Nat} (h : ∀ z ∈ ys, z.length ≤ m) (hn : ys.length ≤ n) (hs : s.length ≤ k) : (Str.join s ys).length ≤ n * m + n * k := by
  have h0 := join_len s ys
  have h1 := sum_len h
  have h2 : ys.length * m ≤ n * m := Nat.mul_le_mul_right m hn
  have h3 : ys.length * s.length ≤ n * k := Nat.mul_le_mul hn hs
  omega
end Lot

/-! Texts read: the mathematics. -/
namespace Lot
open PySem PySem.Spec PyProof.Rows L2
def isName (z : Str) : Bool := (decide (1 ≤ z.length) && decide (z.length ≤ 4)) && z.cps.toList.all fun c => decide (c ∈ abc.cps.toList)
def minus : Str := Str.ofString "-"
/-- a word taken for a thing -/
def thingOf (z : Str) : Str × Nat := if Txt.startswith z minus = true then (cutS z (some 1) none, 1) else (z, 0)
def isDue (z : Str) (at' wide : Nat) : Bool := if at' % (wide + 1) = wide then decide (z = slash) else isName (thingOf z).1
theorem mem_abc {c : Nat} : c ∈ abc.cps.toList ↔ 97 ≤ c ∧ c ≤ 122 := by
  rw [abc_list, List.mem_map]
  constructor
  · rintro ⟨a, ha, rfl⟩
    have := List.mem_range.mp ha
    omega
  · rintro ⟨h1, h2⟩
    exact ⟨c - 97, List.mem_range.mpr (by omega), by omega⟩
theorem isName_iff {z : Str} : isName z = true ↔ NameOk z := by
  unfold isName NameOk
  rw [Bool.and_eq_true, Bool.and_eq_true, List.all_eq_true]
  constructor
  · rintro ⟨⟨h1, h2⟩, h3⟩
    exact ⟨of_decide_eq_true h1, of_decide_eq_true h2, fun c hc => mem_abc.mp (of_decide_eq_true (h3 c hc))⟩
  · rintro ⟨h1, h2, h3⟩
    exact ⟨⟨decide_eq_true h1, decide_eq_true h2⟩, fun c hc => decide_eq_true (mem_abc.mpr (h3 c hc))⟩
theorem str_ext {a b : Str} (h : a.cps.toList = b.cps.toList) : a = b := by
  obtain ⟨a⟩ := a
  obtain ⟨b⟩ := b
  exact congrArg Str.mk (Array.toList_inj.mp h)
theorem minus_is : minus = ⟨#[45]⟩ := by decide +kernel
theorem starts_iff {z : Str} : Txt.startswith z minus = true ↔ z.cps.toList[0]? = some 45 := by
  unfold Txt.startswith Builtin.Str.subAt
  rw [minus_is]
  obtain ⟨⟨l⟩⟩ := z
  cases l with
  | nil => simp [Str.length]
  | cons c r => simp [Str.length]
theorem cut_one (z : Str) : cutS z (some 1) none = ⟨(z.cps.toList.drop 1).toArray⟩ := by
  unfold cutS
  have e1 : HT.sIx z.length 0 (some 1) = min 1 z.length := HT.sIx_nat z.length 0 1
  rw [e1, HT.sIx_none]
  have hl : z.length = z.cps.toList.length := by simp [Str.length]
  rw [hl]
  congr 2
  cases z.cps.toList with
  | nil => rfl
  | cons x r =>
    rw [show min 1 (x :: r).length = 1 by rw [List.length_cons]; omega]
    show List.take ((x :: r).length - 1) r = r
    rw [List.length_cons, Nat.add_sub_cancel]
    exact List.take_length
theorem nil_app (z : Str) : (Str.ofString "" ++ z) = z := by
  have e : Str.ofString "" = ⟨#[]⟩ := by decide +kernel
  rw [e]
  show (⟨#[] ++ z.cps⟩ : Str) = z
  rw [Array.empty_append]
theorem word_up {th : Str × Nat} (h : th.2 = 0) : word th = th.1 := by
  unfold word dash
  rw [if_pos h, nil_app]
theorem word_down {th : Str × Nat} (h : th.2 ≠ 0) : (word th).cps.toList = 45 :: th.1.cps.toList := by
  unfold word dash
  rw [if_neg h]
  show ((Str.ofString "-").cps ++ th.1.cps).toList = _
  rw [Array.toList_append]
  have e : (Str.ofString "-").cps.toList = [45] := by decide +kernel
  rw [e]
  rfl
theorem name_first {z : Str} (h : NameOk z) : ∃ c r, z.cps.toList = c :: r ∧ 97 ≤ c ∧ c ≤ 122 := by
  cases e : z.cps.toList with
  | nil =>
    have h1 := h.1
    have : z.length = 0 := by
      show z.cps.size = 0
      rw [← Array.length_toList, e]; rfl
    omega
  | cons c r => exact ⟨c, r, rfl, h.2.2 c (by rw [e]; exact List.mem_cons_self)⟩
theorem thing_word {th : Str × Nat} (h : ThOk th) : thingOf (word th) = th := by
  obtain ⟨c, r, ec, c1, c2⟩ := name_first h.1
  unfold thingOf
  by_cases f : th.2 = 0
  · rw [word_up f, if_neg (fun z => by
      rw [starts_iff, ec] at z
      have : c = 45 := Option.some.inj z
      omega)]
    rw [← f]
  · have e := word_down f
    rw [if_pos (starts_iff.mpr (by rw [e]; rfl)), cut_one, e]
    have : th.2 = 1 := by have := h.2; omega
    refine Prod.ext ?_ this.symm
    show (⟨th.1.cps.toList.toArray⟩ : Str) = th.1
    rw [Array.toArray_toList]
theorem word_ne_slash {th : Str × Nat} (h : ThOk th) : word th ≠ slash := fun e => by
  have e2 := thing_word h
  rw [e] at e2
  have e3 : thingOf slash = (slash, 0) := by decide +kernel
  rw [e3] at e2
  have h1 := h.1
  rw [← e2] at h1
  have : 97 ≤ 47 := (h1.2.2 47 (by decide +kernel)).1
  omega
theorem word_no_blank {th : Str × Nat} (h : ThOk th) : 32 ∉ (word th).cps.toList := fun hm => by
  by_cases f : th.2 = 0
  · rw [word_up f] at hm
    have := (h.1.2.2 32 hm).1
    omega
  · rw [word_down f] at hm
    rcases List.mem_cons.mp hm with e | hm
    · exact absurd e (by decide)
    · have := (h.1.2.2 32 hm).1
      omega
/-! ### rows glued -/
theorem glued_len {w : Nat} : ∀ {rows : List (List Str)}, rows ≠ [] → (∀ r ∈ rows, r.length = w) → (glued rows).length + 1 = rows.length * (w + 1)
  | [], h, _ => absurd rfl h
  | [r], _, h => by
    show r.length + 1 = 1 * (w + 1)
    rw [h r List.mem_cons_self, Nat.one_mul]
  | r :: q :: rs, _, h => by
    have ih := glued_len (rows := q :: rs) (by simp) fun x hx => h x (List.mem_cons_of_mem _ hx)
    show (r ++ (slash :: glued (q :: rs))).length + 1 = _
    rw [List.length_append, List.length_cons, h r List.mem_cons_self, List.length_cons, Nat.succ_mul]
    omega
theorem glued_due {w : Nat} : ∀ {rows : List (List Str)} {j : Nat} {z : Str}, (∀ r ∈ rows, r.length = w) → (glued rows)[j]? = some z → if j % (w + 1) = w then z = slash else ∃ r ∈ rows, z ∈ r
  | [], j, z, _, e => by simp [glued] at e
  | [r], j, z, h, e => by
    have e' : r[j]? = some z := e
    have hj := (List.getElem?_eq_some_iff.mp e').1
    rw [h r List.mem_cons_self] at hj
    rw [if_neg (by rw [Nat.mod_eq_of_lt (by omega)]; omega)]
    exact ⟨r, List.mem_cons_self, List.mem_of_getElem? e'⟩
  | r :: q :: rs, j, z, h, e => by
    have hr := h r List.mem_cons_self
    have e' : (r ++ (slash :: glued (q :: rs)))[j]? = some z := e
    by_cases c : j < w
    · rw [List.getElem?_append_left (by omega)] at e'
      rw [if_neg (by rw [Nat.mod_eq_of_lt (by omega)]; omega)]
      exact ⟨r, List.mem_cons_self, List.mem_of_getElem? e'⟩
    · rw [List.getElem?_append_right (by omega), hr] at e'
      by_cases c2 : j = w
      · subst c2
        rw [Nat.sub_self] at e'
        rw [if_pos (Nat.mod_eq_of_lt (by omega))]
        exact (Option.some.inj e').symm
      · obtain ⟨k, rfl⟩ : ∃ k, j = (w + 1) + k := ⟨j - (w + 1), by omega⟩
        rw [show w + 1 + k - w = k + 1 by omega, List.getElem?_cons_succ] at e'
        have ih := glued_due (rows := q :: rs) (fun x hx => h x (List.mem_cons_of_mem _ hx)) e'
        rw [Nat.add_mod_left]
        split
        · next c3 => rw [if_pos c3] at ih; exact ih
        · next c3 =>
          rw [if_neg c3] at ih
          obtain ⟨x, hx, hz⟩ := ih
          exact ⟨x, List.mem_cons_of_mem _ hx, hz⟩
theorem glued_filter : ∀ {rows : List (List Str)}, (∀ r ∈ rows, ∀ z ∈ r, z ≠ slash) → (glued rows).filter (fun z => !decide (z = slash)) = rows.flatten
  | [], _ => rfl
  | [r], h => by
    show r.filter _ = [r].flatten
    rw [List.flatten_singleton, List.filter_eq_self.mpr]
    intro z hz
    rw [decide_eq_false (h r List.mem_cons_self z hz)]; rfl
  | r :: q :: rs, h => by
    have ih := glued_filter (rows := q :: rs) fun x hx => h x (List.mem_cons_of_mem _ hx)
    have hr : r.filter (fun z => !decide (z = slash)) = r := List.filter_eq_self.mpr fun z hz => by
      rw [decide_eq_false (h r List.mem_cons_self z hz)]; rfl
    show (r ++ (slash :: glued (q :: rs))).filter _ = (r :: q :: rs).flatten
    rw [List.filter_append, hr, List.filter_cons_of_neg (by simp), ih]
    rfl
theorem rows_flat {w : Nat} : ∀ (h : Nat) (ws : List Str), ws.length = h * w → (rowsOf h w ws).flatten = ws
  | 0, ws, e => by
    rw [Nat.zero_mul] at e
    rw [List.eq_nil_of_length_eq_zero e]
    rfl
  | h + 1, ws, e => by
    have ih := rows_flat (w := w) h (ws.drop w) (by rw [List.length_drop, e, Nat.succ_mul]; omega)
    have er : rowsOf (h + 1) w ws = ws.take w :: rowsOf h w (ws.drop w) := by
      unfold rowsOf
      rw [List.range_succ_eq_map, List.map_cons, List.map_map]
      congr 1
      · rw [Nat.zero_mul, List.drop_zero]
      · refine List.map_congr_left fun r _ => ?_
        show (ws.drop ((r + 1) * w)).take w = ((ws.drop w).drop (r * w)).take w
        rw [List.drop_drop, Nat.succ_mul, Nat.add_comm (r * w) w]
    rw [er, List.flatten_cons, ih, List.take_append_drop]
theorem rows_each {h w : Nat} {ws : List Str} (e : ws.length = h * w) : ∀ r ∈ rowsOf h w ws, r.length = w ∧ ∀ z ∈ r, z ∈ ws := by
  intro r hr
  unfold rowsOf at hr
  obtain ⟨k, hk, rfl⟩ := List.mem_map.mp hr
  have hk' := List.mem_range.mp hk
  have h2 : (k + 1) * w ≤ h * w := Nat.mul_le_mul_right w hk'
  rw [Nat.succ_mul] at h2
  refine ⟨?_, fun z hz => List.mem_of_mem_drop (List.mem_of_mem_take hz)⟩
  rw [List.length_take, List.length_drop, e]
  omega
theorem words_is {bd : Bd} {ths : List (Str × Nat)} (ok : bd.Ok 36) (hl : ths.length = bd.cells) : wordsFrom bd 0 ths = glued (rowsOf bd.high bd.wide (ths.map word)) := by
  have plain : ∀ n, bd.high = 1 → bd.wide = n → (∀ i, bd.edge i = false) → bd.cells = n → wordsFrom bd 0 ths = glued (rowsOf bd.high bd.wide (ths.map word)) := fun n e1 e2 e3 e4 => by
    rw [e1, e2, words_plain bd e3]
    show _ = ((ths.map word).drop (0 * n)).take n
    rw [Nat.zero_mul, List.drop_zero, List.take_of_length_le (by rw [List.length_map, hl, e4]; exact Nat.le_refl _)]
  cases bd with
  | row n => exact plain n rfl rfl (fun _ => rfl) (Nat.one_mul n)
  | ring n => exact plain n rfl rfl (fun _ => rfl) (Nat.one_mul n)
  | floor h w =>
    obtain ⟨o1, o2, o3⟩ := ok
    obtain ⟨n, rfl⟩ : ∃ n, h = n + 1 := ⟨h - 1, by omega⟩
    have := words_glued (h := n + 1) o2 n 0 ths hl
    rw [Nat.zero_mul, if_neg (by decide), List.nil_append] at this
    exact this
theorem Bd.pos {bd : Bd} (ok : bd.Ok 36) : 1 ≤ bd.high ∧ 1 ≤ bd.wide := by
  cases bd with
  | row n => exact ⟨Nat.le_refl _, by have := ok.1; show 1 ≤ n; omega⟩
  | ring n => exact ⟨Nat.le_refl _, by have := ok.1; show 1 ≤ n; omega⟩
  | floor h w => exact ⟨ok.1, ok.2.1⟩
/-- the words of a standing are due, are as many as are due, and tell its things -/
theorem words_due {bd : Bd} {ths : List (Str × Nat)} (ok : bd.Ok 36) (hl : ths.length = bd.cells) (hok : ∀ th ∈ ths, ThOk th) :
    (∀ j z, (wordsFrom bd 0 ths)[j]? = some z → isDue z j bd.wide = true) ∧ (wordsFrom bd 0 ths).length + 1 = bd.high * (bd.wide + 1) ∧
      ((wordsFrom bd 0 ths).filter fun z => !decide (z = slash)).map thingOf = ths := by
  have hp := Bd.pos ok
  have hwl : (ths.map word).length = bd.high * bd.wide := by rw [List.length_map, hl]; rfl
  have hrows := rows_each hwl
  have hword : ∀ z ∈ ths.map word, ∃ th ∈ ths, z = word th := fun z hz => by
    obtain ⟨th, h1, h2⟩ := List.mem_map.mp hz
    exact ⟨th, h1, h2.symm⟩
  rw [words_is ok hl]
  refine ⟨fun j z e => ?_, ?_, ?_⟩
  · have := glued_due (fun r hr => (hrows r hr).1) e
    unfold isDue
    split
    · next c => rw [if_pos c] at this; exact decide_eq_true this
    · next c =>
      rw [if_neg c] at this
      obtain ⟨r, hr, hz⟩ := this
      obtain ⟨th, h1, rfl⟩ := hword z ((hrows r hr).2 z hz)
      rw [thing_word (hok th h1)]
      exact isName_iff.mpr (hok th h1).1
  · have hne : rowsOf bd.high bd.wide (ths.map word) ≠ [] := fun e => by
      unfold rowsOf at e
      rw [List.map_eq_nil_iff, List.range_eq_nil] at e
      omega
    have := glued_len (w := bd.wide) hne fun r hr => (hrows r hr).1
    rw [this]
    unfold rowsOf
    rw [List.length_map, List.length_range]
  · rw [glued_filter, rows_flat bd.high _ hwl, List.map_map]
    · rw [List.map_congr_left (g := id), List.map_id]
      intro th hth
      exact thing_word (hok th hth)
    · intro r hr z hz
      obtain ⟨th, h1, rfl⟩ := hword z ((hrows r hr).2 z hz)
      exact word_ne_slash (hok th h1)
/-- the text of a standing, split -/
theorem text_split {bd : Bd} {ths : List (Str × Nat)} (hne : ths ≠ []) (hok : ∀ th ∈ ths, ThOk th) : Txt.split (textOf bd ths) (Str.ofString " ") = wordsFrom bd 0 ths := by
  unfold textOf
  have e : TL.tl (Str.ofString " ") = 32 :: [] := by decide +kernel
  rw [← TL.join_eq]
  refine TL.split_join e (by decide +kernel) ?_ ?_
  · cases ths with
    | nil => exact absurd rfl hne
    | cons th r =>
      show cellWords bd 0 th ++ _ ≠ []
      unfold cellWords
      simp
  · have : ∀ (l : List (Str × Nat)) (i : Nat), (∀ th ∈ l, ThOk th) → ∀ p ∈ wordsFrom bd i l, 32 ∉ TL.tl p := by
      intro l
      induction l with
      | nil => intro i _ p hp; cases hp
      | cons th r ih =>
        intro i h p hp
        rcases List.mem_append.mp hp with hp | hp
        · rcases List.mem_append.mp hp with hp | hp
          · split at hp
            · rw [List.mem_singleton.mp hp]; decide +kernel
            · cases hp
          · rw [List.mem_singleton.mp hp]
            exact word_no_blank (h th List.mem_cons_self)
        · exact ih (i + 1) (fun t ht => h t (List.mem_cons_of_mem _ ht)) p hp
    exact this ths 0 hok
end Lot

/-! repr of data: exact where nothing is being shown already (no guards stand around); a def called there; a row's law called from outside. -/
namespace Lot
open PySem PySem.Spec PyProof.Rows L2
/-- what a def does where nothing is being shown -/
def GRun (P : Program) (w : World) (K : PySem.W.Frag) (mg : Str → Option Value) (base : Heap) (CX : CXT) (k : Nat) (f : Addr) (fd : FuncData) (ps : List Str) (sp : Sp) : Prop :=
  ∀ (A : Around) (outer : List Env) (s : Shared) (H : Hp) (args : Args) (us : List Value) (vs : List V) (Q : VK) (E : XK),
    A.guards = some [] → Room k A → Env0 P w K mg base A outer s H → BindsTo s fd args (ps.zip us) → Vals vs us → sp vs H Q E →
      codeAny (model P w) A (.call (.ref f) args) (CR CX outer P w H s Q E) s
/-- repr of a thing that is data -/
def rReprD (K : PySem.W.Frag) : List V → Hp → VK → Prop := fun xs H Q => ∃ (a : Addr) (d : PyData), xs = [.ref a] ∧ Dp K H (.ref a) d ∧ d.showable = true ∧ d.hasDict = false ∧ d.depth ≤ 50 ∧ d.shown.length ≤ sizeLine ∧ Q (.str d.shown) H
theorem call_reprD {X : Cx} {k : Nat} (hG : X.A.guards = some []) (hr : Room k X.A) : CallR X (.builtin "repr") (rReprD X.K) := by
  intro pins s σ H xs us Q I r h
  obtain ⟨a, d, rfl, hd, h1, h2, h3, h4, q⟩ := h
  obtain ⟨u, rfl, ru⟩ := vals1 r
  obtain ⟨as, rd⟩ := Dp.reads I d _ u hd ru
  cases ru
  have un := hr.units
  exact repr_of_reads' rd h1 (fun z => by rw [h2] at z; cases z) hG (by omega) (fun _ _ e => e) (fun h' u tk kp => ⟨.str d.shown, H, I.kept kp, ⟨u, rfl⟩, q⟩) h4
/-- repr of an int, or of a thing that is data -/
def rReprV (K : PySem.W.Frag) : List V → Hp → VK → Prop := fun xs H Q => ∃ (x : V) (d : PyData), xs = [x] ∧ ((∃ i, x = .int i) ∨ ∃ a, x = .ref a) ∧ Dp K H x d ∧ d.showable = true ∧ d.hasDict = false ∧ d.depth ≤ 50 ∧ d.shown.length ≤ sizeLine ∧ Q (.str d.shown) H
theorem call_reprV {X : Cx} {k : Nat} (hG : X.A.guards = some []) (hr : Room k X.A) : CallR X (.builtin "repr") (rReprV X.K) := by
  intro pins s σ H xs us Q I r h
  obtain ⟨x, d, rfl, hx, hd, h1, h2, h3, h4, q⟩ := h
  rcases hx with ⟨i, rfl⟩ | ⟨a, rfl⟩
  · obtain ⟨u, rfl, t, rfl⟩ := vals1 r
    cases hd
    have hz : i.natAbs.log2 < 1920 := of_decide_eq_true h1
    exact PySem.P.repr_of_int hz ⟨.str _, H, I.tok _, ⟨_, rfl⟩, q⟩
  · exact call_reprD hG hr pins s σ H _ us Q I r ⟨a, d, rfl, hd, h1, h2, h3, h4, q⟩
section
variable {CX : CXT} {P : Program} {w : World} {K : PySem.W.Frag} {mg : Str → Option Value} {base : Heap}
theorem g_of {k : Nat} {f : Addr} {x qual : Str} {st : Stmt} {fd : FuncData} {N ps : List Str} {sp : Sp} (F : Fun K x qual st f fd) (S : FnScope N ps (defScope st)) (len : ∀ vs H Q E, sp vs H Q E → vs.length = ps.length)
    (body : ∀ (cdv : Value) (A : Around) (outer : List Env) (s : Shared) (H : Hp) (vs : List V) (Q : VK) (E : XK), A.guards = some [] → Room k (A.deeper (envOfC qual (defScope st) s.heap.objs.size f cdv)) → sp vs H Q E →
      ∃ t, PSs (cxOf CX P w K mg base N qual (defScope st) f cdv A outer s H E) (defBody st) t ∧ t { nx := fun _ H' => Q .non H', rt := Q } (start N vs) H) :
    GRun P w K mg base CX (k + 1) f fd ps sp := by
  intro A outer s H args us vs Q E hG hr e0 hb rv hsp
  obtain ⟨oc, od, kV, doc, pm, an, cdv, ct, osl, rfl, lk, hcd⟩ := F.ex
  have n1 := len _ _ _ _ hsp
  have inS : ∀ b o, base.get? b = some o → s.heap.get? b = some o := fun b o e => (e0.bs b o e).1
  have KS : K.In s.heap := e0.mod.kin.keeps inS
  have LS : s.heap.NoLimit := e0.mod.nolimit.keeps inS
  refine codeAny_call_function hr.depth (KS _ _ lk) rfl S.co S.gen rfl (PySem.W.codeRec_of KS hcd) (hb _ _ _ _ ?_)
  have kinds : ∀ y ∈ ps.zip us, (defScope st).names.lookup y.1 = some .local ∨ ((defScope st).names.lookup y.1 = some .cell ∧ ((cellsFrom (s.heap.objs.size + 1) (defScope st).names []).lookup y.1).isSome = true) := by
    rintro ⟨n, v⟩ hy
    have hp := S.par n (List.of_mem_zip hy).1
    exact hp.imp_right fun c => ⟨c, PySem.W.cellsFrom_some _ _ _ (.inl c)⟩
  refine wpAny_newFunctionEnv_cells S.kind kinds fun env he s1 x => ?_
  subst he
  obtain ⟨t, ht, hq⟩ := body cdv A outer s H vs Q E hG (hr.deeper _) hsp
  have I := inv_start (CX := CX) (E := E) S hr.hd e0 n1 rv x
  refine ⟨LS.keeps x.toInCall.keep, codeAny_func (wpAny_mono (ht.run [] s1 (start N vs) H _ I hq) (fun fl s2 hs => ?_) fun _ _ z => z)⟩
  match fl, hs with
  | .ret u, ⟨v, σ2, H2, J, rv2, q⟩ => exact ⟨v, H2, J.os, J.bare, J.base, J.hok, rv2, q⟩
  | .next, ⟨σ2, H2, J, q⟩ => exact ⟨V.non, H2, J.os, J.bare, J.base, J.hok, rfl, q⟩
  | .brk, ⟨_, _, _, q⟩ => exact q.elim
  | .cont, ⟨_, _, _, q⟩ => exact q.elim
/-- the same of a def that lets nothing out -/
theorem g_ok {k : Nat} {f : Addr} {x qual : Str} {st : Stmt} {fd : FuncData} {N ps : List Str} {sp : Sp} (F : Fun K x qual st f fd) (S : FnScope N ps (defScope st)) (len : ∀ vs H Q E, sp vs H Q E → vs.length = ps.length)
    (body : ∀ (cdv : Value) (A : Around) (outer : List Env) (s : Shared) (H : Hp) (vs : List V) (Q : VK) (E : XK), A.guards = some [] → Room k (A.deeper (envOfC qual (defScope st) s.heap.objs.size f cdv)) → sp vs H Q E →
      ∃ t, PSs (cxOf CX0 P w K mg base N qual (defScope st) f cdv A outer s H E).nox (defBody st) t ∧ t { nx := fun _ H' => Q .non H', rt := Q } (start N vs) H) :
    GRun P w K mg base CX0 (k + 1) f fd ps sp :=
  g_of F S len fun cdv A outer s H vs Q E hG hr hs => by
    obtain ⟨t, h, q⟩ := body cdv A outer s H vs Q E hG hr hs
    exact ⟨t, h.nox, q⟩
end
end Lot
namespace Lot
open PySem PySem.Spec PyProof.Rows L2
section
variable {CX : CXT} {P : Program} {w : World} {K : PySem.W.Frag} {mg mb : Str → Option Value}
/-- what is tracked as a row's law is called: the script, if it is no object of the module's own -/
def onlyScript (K : PySem.W.Frag) (a : Addr) (o : Obj) (xs : List V) : Hp := fun b => if b = a ∧ K.lookup a = none then some (.frz o (.lst xs)) else none
theorem onlyScript_some {a b : Addr} {o : Obj} {xs : List V} {u : HO} (h : onlyScript K a o xs b = some u) : b = a ∧ K.lookup a = none ∧ u = .frz o (.lst xs) := by
  unfold onlyScript at h
  by_cases c : b = a ∧ K.lookup a = none
  · rw [if_pos c] at h
    exact ⟨c.1, c.2, (Option.some.inj h).symm⟩
  · rw [if_neg c] at h
    cases h
theorem row_call {fa a : Addr} {s : Shared} {vs : List Value} {ns : List Int} (KS : K.In s.heap) (gS : s.heap.Ns mainGlobals mg) (bS : s.heap.Ns builtinsNs mb) (bb : ∀ x : Str, x ≠ "__name__" → mb x = bootBuiltins x) (lS : s.heap.NoLimit) (gens : s.gens = #[])
    (at_a : s.heap.get? a = some { cls := .type "list", data := .seq vs.toArray }) (hi : IntsAre vs ns) (few : ns.length ≤ sizeLine)
    (run : ∀ base H, K.In base → base.Ns mainGlobals mg → Only H → SqL K H a (ns.map V.int) → Env0 P w K mg base callerA [] s H →
      codeAny (model P w) callerA (.call (.ref fa) ⟨[.ref a], []⟩) (CR CX [] P w H s (fun v _ => v = .bl true) fun _ _ _ => False) s)
    (noX : ∀ H e s', CX [] H s (fun _ _ _ => False) e s' → False) :
    codeAny (model P w) callerA (.call (.ref fa) ⟨[.ref a], []⟩) (fun r s' => r = .ok (.ret (.bool true)) ∧ OldK s.heap s'.heap ∧ s'.os = s.os ∧ AllBare s'.gens) s := by
  have rv := vals_ints hi
  have same := hi.length
  obtain ⟨o, ho⟩ : ∃ o : Obj, o = { cls := .type "list", data := .seq vs.toArray } := ⟨_, rfl⟩
  rw [← ho] at at_a
  obtain ⟨H, hH⟩ : ∃ H, H = onlyScript K a o (ns.map V.int) := ⟨_, rfl⟩
  have told : ∀ {b u}, H b = some u → b = a ∧ K.lookup a = none ∧ u = .frz o (.lst (ns.map V.int)) := fun {b u} e => by
    rw [hH] at e
    exact onlyScript_some e
  have only : Only H := fun b => by
    cases e : H b with
    | none => exact .inl rfl
    | some u =>
      obtain ⟨_, _, rfl⟩ := told e
      exact .inr ⟨_, _, rfl⟩
  have hok : HOk P w H s.heap := fun b u e => by
    obtain ⟨rfl, _, rfl⟩ := told e
    subst ho
    exact ⟨at_a, by rw [List.length_map]; exact few, vs, _, rv, at_a⟩
  have list : SqL K H a (ns.map V.int) := by
    cases e : K.lookup a with
    | none => exact .inl (.inr ⟨o, by rw [hH]; unfold onlyScript; rw [if_pos ⟨rfl, e⟩]⟩)
    | some o2 =>
      have e2 := KS a o2 e
      rw [at_a] at e2
      cases e2
      subst ho
      exact .inr ⟨_, vs.toArray, _, e, rfl, rfl, rfl, by rw [List.size_toArray, same]; exact few, by simpa using rv⟩
  have untold : ∀ {b : Addr} {u : Obj}, s.heap.get? b = some u → (K.lookup b = some u ∨ ∃ es ep, u.data = .dict es ep) → H b = none := fun {b u} e c => by
    cases q : H b with
    | none => rfl
    | some t =>
      obtain ⟨rfl, k, _⟩ := told q
      rcases c with c | ⟨es, ep, c⟩
      · rw [k] at c; cases c
      · rw [at_a] at e
        cases e
        subst ho
        cases c
  have names : ∀ {b : Addr} {m : Str → Option Value}, s.heap.Ns b m → (hidT s.heap H).Ns b m := fun {b m} ⟨u, es, ep, e, d, r⟩ => ⟨u, es, ep, hidT_get e (untold e (.inr ⟨es, ep, d⟩)), d, r⟩
  have KB : K.In (hidT s.heap H) := fun b u e => hidT_get (KS b u e) (untold (KS b u e) (.inl e))
  have mod : Mod K mg (hidT s.heap H) := ⟨KB, names gS, ⟨mb, names bS, bb⟩, by obtain ⟨mc, h1, h2⟩ := lS; exact ⟨mc, names h1, h2⟩⟩
  have e0 : Env0 P w K mg (hidT s.heap H) callerA [] s H := ⟨rfl, mod, fun b u e => of_hidT e, Nat.le_of_eq (hidT_size _ _), trivial, fun b hb => (List.not_mem_nil hb).elim, hok, .of_eq gens⟩
  refine codeAny_mono (run _ H KB (names gS) only list e0) fun r s' h => ?_
  match r, h with
  | .error e, h => exact (noX H e s' h).elim
  | .ok .next, h => exact h.elim
  | .ok .brk, h => exact h.elim
  | .ok .cont, h => exact h.elim
  | .ok (.ret u), ⟨v, H', os, bare, un, hok', r', q⟩ =>
    obtain rfl : v = .bl true := q
    obtain rfl : u = Value.bool true := r'
    refine ⟨rfl, OldK.of_keep fun b u e => ?_, os, bare⟩
    cases q : H b with
    | none => exact un.keep b u e q (fun z => (List.not_mem_nil (show b ∈ ([] : List Addr) from z)).elim) (fun z => (List.not_mem_nil z).elim)
    | some t =>
      obtain ⟨rfl, _, rfl⟩ := told q
      have k := un.frzs b o _ q
      obtain ⟨e1, _⟩ := hok b _ q
      obtain ⟨e2, _⟩ := hok' b _ k
      rw [e] at e1
      cases e1
      exact e2
end
/-- a row's law by what its def does where nothing is being shown -/
theorem walk_g {l : PySem.W.OpenLaw} {n k : Nat} {q : Program} {loose : List Str} {XP : (Str → Option Value) → Heap → Prop} {YP : World → Heap → Prop} {d : DefRec} {K : Params → PySem.W.Frag} {CX : World → CXT} {sp : World → Sp} {x : Str}
    (hn : l.most = some n) (hn2 : n ≤ sizeLine) (hdf : d.params.defaults = []) (hr : Room k callerA) (hY : ∀ w h, YP w h → (K w.params).In h)
    (F : ∀ (w : World) (mg : Str → Option Value) (fa : Addr) (h : Heap), (K w.params).In h → h.Ns mainGlobals mg → mg d.name = some (.ref fa) →
      ∃ fd : FuncData, (∀ (s : Shared) (u : Value), BindsTo s fd ⟨[u], []⟩ [(x, u)]) ∧ ∀ base : Heap, (K w.params).In base → base.Ns mainGlobals mg → GRun l.prog w (K w.params) mg base (CX w) k fa fd [x] (sp w))
    (hsp : ∀ (w : World) (H : Hp) (a : Addr) (ns : List Int), ns.length ≤ n → Only H → SqL (K w.params) H a (ns.map V.int) → sp w [.ref a] H (fun v _ => v = .bl true) fun _ _ _ => False)
    (hCX : ∀ (w : World) (H : Hp) (s : Shared) (e : Value) (s' : Shared), CX w [] H s (fun _ _ _ => False) e s' → False) :
    PySem.W.WalkO q loose XP YP l.row.toRowW d [] (fun f vs => PySem.call f vs) := by
  refine Att.attach_call hn hdf fun w s0 s1 mg mb fa o pm cd doc a vs ns G Y ho hd hcd hmg hobj hints hlen hg => ?_
  obtain ⟨fd, hb, hF⟩ := F w mg fa _ (hY w _ Y) G.T.g hmg
  refine row_call (hY w _ Y) G.T.g G.T.b G.T.builtins G.T.nolimit hg hobj hints (Nat.le_trans hlen hn2) (fun base H k1 k2 k3 k4 e0 => ?_) fun H e s' => hCX w H s1 e s'
  exact hF base k1 k2 callerA [] s1 H ⟨[.ref a], []⟩ [.ref a] [.ref a] _ _ rfl hr e0 (hb s1 (.ref a)) (.cons rfl .nil) (hsp w H a ns hlen k3 k4)
end Lot
/-! ### standings as data -/
namespace Lot
open PySem PySem.Spec PyProof.Rows L2
def dth (th : Str × Nat) : PyData := .tuple [.str th.1, .int th.2]
def dStand (ths : List (Str × Nat)) : PyData := .tuple (ths.map dth)
theorem dStand_inj : ∀ {a b : List (Str × Nat)}, a.map dth = b.map dth → a = b
  | [], [], _ => rfl
  | [], _ :: _, h => by cases h
  | _ :: _, [], h => by cases h
  | (x, i) :: a, (y, j) :: b, h => by
    have h' : dth (x, i) :: a.map dth = dth (y, j) :: b.map dth := h
    obtain ⟨h1, h2⟩ := List.cons.inj h'
    have h3 : PyData.tuple [.str x, .int (i : Int)] = .tuple [.str y, .int (j : Int)] := h1
    obtain ⟨h4, h5⟩ := List.cons.inj (PyData.tuple.inj h3)
    have h6 := (List.cons.inj h5).1
    have e1 : x = y := PyData.str.inj h4
    have e2 : i = j := Int.ofNat.inj (PyData.int.inj h6)
    rw [e1, e2, dStand_inj h2]
theorem Things.data {K : PySem.W.Frag} {H : Hp} : ∀ {as : List Addr} {ths : List (Str × Nat)}, Things H as ths → DpAll K H (as.map V.ref) (ths.map dth)
  | [], [], _ => .nil
  | a :: as, t :: ts, h => .cons (.tup (.inl (.inl h.1)) (.cons (.str _) (.cons (.int _) .nil))) (Things.data h.2)
  | [], _ :: _, h => h.elim
  | _ :: _, [], h => h.elim
theorem StandAt.data {K : PySem.W.Frag} {H : Hp} {t : Addr} {ths : List (Str × Nat)} (h : StandAt H t ths) : Dp K H (.ref t) (dStand ths) := by
  obtain ⟨as, e, g⟩ := h
  exact .tup (.inl (.inl e)) g.data
theorem dAll_show : ∀ {ths : List (Str × Nat)}, (∀ th ∈ ths, ThOk th) → PyData.showableAll (ths.map dth) = true
  | [], _ => rfl
  | th :: r, h => by
    have ih := dAll_show fun x hx => h x (List.mem_cons_of_mem _ hx)
    have h2 := (h th List.mem_cons_self).2
    show (PyData.showable (dth th) && PyData.showableAll (r.map dth)) = true
    rw [ih, Bool.and_true]
    have : PyData.showable (dth th) = (true && (decide (((th.2 : Int)).natAbs.log2 < 1920) && true)) := rfl
    rw [this]
    have h3 : th.2 = 0 ∨ th.2 = 1 := by omega
    rcases h3 with h3 | h3 <;> rw [h3] <;> decide
theorem dAll_plain : ∀ (ths : List (Str × Nat)), PyData.hasDictAll (ths.map dth) = false
  | [] => rfl
  | th :: r => by
    show (PyData.hasDict (dth th) || PyData.hasDictAll (r.map dth)) = false
    rw [dAll_plain r]
    rfl
theorem dAll_depth : ∀ (ths : List (Str × Nat)), PyData.depthAll (ths.map dth) ≤ 1
  | [] => Nat.zero_le _
  | th :: r => by
    have ih := dAll_depth r
    show max (PyData.depth (dth th)) (PyData.depthAll (r.map dth)) ≤ 1
    have : PyData.depth (dth th) = 1 := rfl
    omega
theorem tuple_le {ts : List Str} {m n : Nat} (h : ∀ t ∈ ts, t.length ≤ m) (hn : ts.length ≤ n) : (tupleText ts).length ≤ n * (m + 2) + 2 := by
  have h1 := PySem.fmt_text ts
  have h2 : piled ts ≤ ts.length * (m + 2) := by
    clear hn h1
    induction ts with
    | nil => exact Nat.zero_le _
    | cons t r ih =>
      have := ih fun x hx => h x (List.mem_cons_of_mem _ hx)
      have := h t List.mem_cons_self
      rw [piled_cons, List.length_cons, Nat.succ_mul]
      omega
  have h3 : ts.length * (m + 2) ≤ n * (m + 2) := Nat.mul_le_mul_right _ hn
  omega
theorem dth_len {th : Str × Nat} (h : ThOk th) : (PyData.shown (dth th)).length ≤ 2 * (50 + 2) + 2 := by
  show (tupleText [reprText th.1, toString ((th.2 : Nat) : Int)]).length ≤ _
  refine tuple_le (m := 50) (n := 2) (fun t ht => ?_) (Nat.le_refl _)
  rcases List.mem_cons.mp ht with rfl | ht
  · have := StrLaws.reprText_len th.1 fun c hc => by
      have := (h.1.2.2 c hc).2
      have e : 123 < 16 ^ 8 := by decide
      omega
    have h4 := h.1.2.1
    omega
  · rw [List.mem_singleton.mp ht]
    have h3 : th.2 = 0 ∨ th.2 = 1 := by have := h.2; omega
    rcases h3 with h3 | h3 <;> rw [h3] <;> decide +kernel
theorem shownAll_map : ∀ (ths : List (Str × Nat)), PyData.shownAll (ths.map dth) = ths.map fun th => PyData.shown (dth th)
  | [] => rfl
  | th :: r => by
    show PyData.shown (dth th) :: PyData.shownAll (r.map dth) = _
    rw [shownAll_map r]
    rfl
/-- what repr asks of a standing -/
theorem dStand_ok {ths : List (Str × Nat)} (h : ∀ th ∈ ths, ThOk th) (hl : ths.length ≤ 2000) : (dStand ths).showable = true ∧ (dStand ths).hasDict = false ∧ (dStand ths).depth ≤ 50 ∧ (dStand ths).shown.length ≤ sizeLine := by
  refine ⟨dAll_show h, dAll_plain ths, ?_, ?_⟩
  · have := dAll_depth ths
    show PyData.depthAll (ths.map dth) + 1 ≤ 50
    omega
  · show (tupleText (PyData.shownAll (ths.map dth))).length ≤ sizeLine
    rw [shownAll_map]
    refine Nat.le_trans (tuple_le (m := 106) (n := 2000) (fun t ht => ?_) (by rw [List.length_map]; exact hl)) (by decide)
    obtain ⟨th, hth, rfl⟩ := List.mem_map.mp ht
    exact dth_len (h th hth)
end Lot

/-! An own exception over ValueError (perhaps through other own classes) whose __init__ hands a text to super().__init__ and keeps one field. -/
namespace Lot
open PySem PySem.Spec PyProof.Rows PySem.W PySem.Calls
/-- what the written part says of the class at C, its __init__ at fI (the text st), the field fld, the text's expression msg -/
structure SupTxt (prog : Program) (K : Frag) (st : Stmt) (qual fld : Str) (msg : Expr) (C fI cc cda : Addr) : Prop where
  cls : ∃ nm q N bs bm sn sub ab col dd k0 k1 k2 k3 k5, K.lookup C = some (excClassObj nm q C N bs bm true sn sub ab col dd k0 k1 k2 k3 k5 "ValueError.__new__") ∧ HandSPX.refsVE bm = true
  sa : findIn K (.ref C) "__setattr__" = some (some (.builtin "object.__setattr__"))
  ga : findIn K (.ref C) "__getattribute__" = some (some (.builtin "BaseException.__getattribute__"))
  gg : findIn K (.ref C) "__getattr__" = some none
  no : findIn K (.ref C) fld = some none
  iC : findIn K (.ref C) "__init__" = some (some (.ref fI))
  tI : typeIn K (.ref fI) = some (.type "function")
  kC : keepIn K (.ref C) = true
  exC : subIn K (.ref C) (.type "BaseException") = some true
  vE : subIn K (.ref C) (.type "ValueError") = some true
  tyC : typeIn K (.ref C) = some (.type "type")
  hdC : hasDictIn K C = true
  te : exmOne K (.ref C) (.ref C) = some true
  op : nsIn K cStatics "thirdparty.any" = some none
  mr : mroIn K C (.ref C) = some true
  su : ks_superIn K C C "__init__" = some (some (.builtin "ValueError.__init__"))
  ns : nsIn K mainGlobals "super" = some none
  fn : ∃ oc od kV doc pm an ct osl, K.lookup fI = some ⟨oc, od, .func (ksFn "__init__" qual (L2.defArgs st) (L2.defBody st) (L2.defScope st) .none kV doc pm an (.ref cda) ct cc), osl⟩ ∧
    (∀ (s : Shared) (x : Addr) (v : Value), BindsTo s (ksFn "__init__" qual (L2.defArgs st) (L2.defBody st) (L2.defScope st) .none kV doc pm an (.ref cda) ct cc) ⟨[.ref x, v], []⟩ [("self", .ref x), (fld, v)])
  cd : codeIn K (.ref cda) qual = true
  file : ∃ ccl cdd vs ccs file tf, K.lookup cda = some ⟨ccl, cdd, .fields vs, ccs⟩ ∧ vs[2]? = some (.str file tf) ∧ ((prog.main.file : Str) == file) = true
  cell : ∃ cl cld csl, K.lookup cc = some ⟨cl, cld, .cell (some (.ref C)), csl⟩
  top : (prog.main.scope.names.lookup ("super" : Str)).isSome = false
/-- .. and of its text -/
structure SupText (st : Stmt) (fld : Str) (msg : Expr) : Prop where
  body : ∃ p0 p1 p2 p3 p4 q1 q2 q3 q4, L2.defBody st = [.Expr (.Call (.Attribute (.Call (.Name "super" p0) [] [] p1) "__init__" p2) [msg] [] p3) p4, .Assign [.Attribute (.Name "self" q1) fld q2] (.Name fld q3) q4] ∧
    ∃ pl : Sem Bool, ∀ env, eval (.Call (.Attribute (.Call (.Name "super" p0) [] [] p1) "__init__" p2) [msg] [] p3) env = (do
      let ov ← attributeBase (.Call (.Name "super" p0) [] [] p1) "__init__" env (eval (.Call (.Name "super" p0) [] [] p1) env)
      standAt p2.atName
      let (f, first) ← holding [ov] (getMethod ov "__init__" pl)
      callWith p3 f first (backTo p3 (starEach [msg] env)) [])
  star : ∀ env, starEach [msg] env = [(false, eval msg env)]
  scope : L2.defScope st = { kind := .function, names := [(Str.ofString "self", .local), (fld, .local), (Str.ofString "__class__", .free), (Str.ofString "super", .globalImplicit)], isGenerator := false, isCoroutine := false, more := [] }
  head : ((L2.defArgs st).posonlyargs ++ (L2.defArgs st).args).head?.map (·.arg) = some ("self" : Str)
  ne : ((Str.ofString "self") == fld) = false ∧ ((Str.ofString "__class__") == fld) = false ∧ ((Str.ofString "super") == fld) = false ∧ (fld == ("__debug__" : Str)) = false ∧ (fld == (Str.ofString "self")) = false
/-- what is left of a fresh exception at x -/
structure SupEnd (h h' : Heap) (x C dx t1 : Addr) (fld : Str) (v : Value) : Prop where
  keep : ∀ b o, b ≠ x → h.get? b = some o → h'.get? b = some o
  obj : h'.get? x = some { cls := .ref C, dict := some dx, data := .fields #[.ref t1, .none, .none, .none, .bool false, .none] }
  dbig : h.objs.size ≤ dx
  dne : dx ≠ x
  ns : h'.Ns1 dx (fun y => if y = fld then some v else none)
/-- the text's expression gives a text, and changes nothing -/
def MsgOk (prog : Program) (w : World) (msg : Expr) (fld : Str) (ok : Value → Prop) : Prop :=
  ∀ (A : Around) (E : Value → Shared → Prop) (Q : Value → Shared → Prop) (env : Env) (v : Value) (s : Shared) (m : Str → Option Value), env.scope.kind = .function → env.kindOf fld = some .local → s.heap.Ns env.locals m → m fld = some v → ok v →
    (∀ z tk tk2, Q (.str z tk) { s with toks := tk2 }) → wpAny (model prog w) A (eval msg env) Q E s
section
variable {prog : Program} {w : World} {A : Around} {R : Result → Shared → Prop} {K : Frag} {mg mb : Str → Option Value} {st : Stmt} {qual fld : Str} {msg : Expr} {C fI cc cda : Addr} {ok : Value → Prop}
theorem kept_but {h h' : Heap} {x : Addr} (X : K.In h) (hx : K.lookup x = none) (k : ∀ b o, b ≠ x → h.get? b = some o → h'.get? b = some o) : K.In h' := fun a o e =>
  k a o (fun z => by rw [z, hx] at e; cases e) (X a o e)
theorem sup_init (T : SupTxt prog K st qual fld msg C fI cc cda) (Tx : SupText st fld msg) (M : MsgOk prog w msg fld ok) {s : Shared} {x t0 : Addr} {v : Value} (KS : K.In s.heap) (gS : s.heap.Ns mainGlobals mg) (bS : s.heap.Ns builtinsNs mb)
    (bb : ∀ y : Str, y ≠ "__name__" → mb y = bootBuiltins y) (lS : s.heap.NoLimit) (hx : s.heap.get? x = some (HandSPX.excO C t0)) (hxK : K.lookup x = none) (room : A.depth < recursionLimit) (hv : ok v)
    (hq : ∀ h' tk dx t1, SupEnd s.heap h' x C dx t1 fld v → R (.ok (.ret .none)) { s with heap := h', toks := tk }) :
    codeAny (model prog w) A (.call (.ref fI) ⟨[.ref x, v], []⟩) R s := by
  obtain ⟨oc, od, kV, doc, pm, an, ct, osl, lk, hbind⟩ := T.fn
  obtain ⟨nm, q, N, bs, bm, sn, sub, ab, col, dd, k0, k1, k2, k3, k5, hC, hbm⟩ := T.cls
  obtain ⟨ccl, cdd, vs, ccs, file, tf, hcode, hvs, hfile⟩ := T.file
  obtain ⟨cl, cld, csl, hcell⟩ := T.cell
  obtain ⟨p0, p1, p2, p3, p4, q1, q2, q3, q4, eb, pl, heval⟩ := Tx.body
  have es := Tx.scope
  obtain ⟨n1, n2, n3, n4, n5⟩ := Tx.ne
  have hcl : clsIn K C = some { name := nm, bases := bs, mro := .ref C :: bm, ns := N, qualname := q, hasDict := true, slotNames := sn, subclasses := sub, abstract := ab, collection := col, hasDel := false } := by unfold clsIn; rw [hC] <;> rfl
  have lself : List.lookup (Str.ofString "self") (L2.defScope st).names = some .local := by rw [es]; rfl
  have lfld : List.lookup fld (L2.defScope st).names = some .local := by
    rw [es]
    show List.lookup fld [(Str.ofString "self", NameKind.local), (fld, .local), _, _] = _
    rw [List.lookup_cons, n5, List.lookup_cons]
    simp
  have lcl : List.lookup (Str.ofString "__class__") (L2.defScope st).names = some .free := by
    rw [es]
    show List.lookup (Str.ofString "__class__") [(Str.ofString "self", NameKind.local), (fld, .local), (Str.ofString "__class__", .free), _] = _
    rw [List.lookup_cons, show (Str.ofString "__class__" == Str.ofString "self") = false by decide +kernel, List.lookup_cons, n2]
    rfl
  have lsu : List.lookup (Str.ofString "super") (L2.defScope st).names = some .globalImplicit := by
    rw [es]
    show List.lookup (Str.ofString "super") [(Str.ofString "self", NameKind.local), (fld, .local), (Str.ofString "__class__", .free), (Str.ofString "super", .globalImplicit)] = _
    rw [List.lookup_cons, show (Str.ofString "super" == Str.ofString "self") = false by decide +kernel, List.lookup_cons, n3]
    rfl
  have kf : (L2.defScope st).kind = .function := by rw [es]
  refine ks_codeAny_call_defAt (body := L2.defBody st) (binds := [("self", .ref x), (fld, v)]) room (KS _ _ lk) rfl lS (codeRec_of KS T.cd) rfl (hbind s x v) ?_ ?_ (fun h1 ns1 k1' => ?_) (by show (L2.defScope st).isCoroutine = false; rw [es]) (by show (L2.defScope st).isGenerator = false; rw [es]) kf
  · show ∀ y ∈ (L2.defScope st).names, y.2 ≠ .cell
    rw [es]
    intro y hy
    simp only [List.mem_cons, List.not_mem_nil, or_false] at hy
    rcases hy with rfl | rfl | rfl | rfl <;> exact fun z => NameKind.noConfusion z
  · intro y hy
    simp only [List.mem_cons, List.not_mem_nil, or_false] at hy
    rcases hy with rfl | rfl
    · exact lself
    · exact lfld
  obtain ⟨L, hL⟩ : ∃ L, L = s.heap.objs.size := ⟨_, rfl⟩
  rw [← hL] at ns1
  rw [← hL]
  have X1 : K.In h1 := KS.keeps k1'
  have hx1 := k1' _ _ hx
  have self1 : [(Str.ofString "self", Value.ref x), (fld, v)].reverse.lookup (Str.ofString "self") = some (.ref x) := by
    show List.lookup (Str.ofString "self") [(fld, v), (Str.ofString "self", Value.ref x)] = _
    rw [List.lookup_cons, n1]
    simp
  have fld1 : [(Str.ofString "self", Value.ref x), (fld, v)].reverse.lookup fld = some v := by
    show List.lookup fld [(fld, v), (Str.ofString "self", Value.ref x)] = _
    rw [List.lookup_cons]
    simp
  obtain ⟨ar, har, hname⟩ : ∃ ar : Arg, ((L2.defArgs st).posonlyargs ++ (L2.defArgs st).args).head? = some ar ∧ ar.arg = Str.ofString "self" := by
    have := Tx.head
    cases e : ((L2.defArgs st).posonlyargs ++ (L2.defArgs st).args).head? with
    | none => rw [e] at this; cases this
    | some ar =>
      rw [e] at this
      exact ⟨ar, rfl, Option.some.inj this⟩
  show PySem.wpAt _ (A.deeper (ksEnv qual (L2.defScope st) L fI (.ref cda) cc)) (.func (L2.defBody st) (ksEnv qual (L2.defScope st) L fI (.ref cda) cc)) (execs (L2.defBody st) (ksEnv qual (L2.defScope st) L fI (.ref cda) cc)) _ _ _
  generalize hbody : L2.defBody st = body at *
  obtain rfl := eb
  have hi : interactive (ksEnv qual (L2.defScope st) L fI (.ref cda) cc) = false := by
    show ((L2.defScope st).kind == .module && _) = false
    rw [kf]
    rfl
  refine ks_wpAt_execs_cons (ks_wpAt_Expr_any (ks_wpAt_MethodCall (pl := pl) ?_ (heval _)) hi)
  refine ks_wpAt_super_base (env := ksEnv qual (L2.defScope st) L fI (.ref cda) cc) (fd := ksFn "__init__" qual (L2.defArgs st) _ (L2.defScope st) .none kV doc pm an (.ref cda) ct cc) lsu lcl (by decide +kernel) rfl (X1 _ _ lk) rfl har rfl (X1 _ _ hcode) rfl hvs hfile T.top ?_
  refine ks_loadName_global kf lsu (loadGlobal_builtin (env := ksEnv qual (L2.defScope st) L fI (.ref cda) cc) (gS.keeps k1') ?sg (bS.keeps k1') ((bb _ (by decide +kernel)).trans PyProof.Rows.Boot.«super») ⟨rfl, ?_⟩)
  case sg => exact mg_none_of KS gS T.ns
  refine wpAny_loadName_free kf lcl rfl ⟨_, X1 _ _ hcell, rfl⟩ ?_
  rw [hname]
  refine wpAny_loadName_local kf lself ns1 self1 ?_
  obtain ⟨oD, hD1, hD2⟩ : ∃ oD, h1.get? C = some oD ∧ oD.data = .cls { name := nm, bases := bs, mro := .ref C :: bm, ns := N, qualname := q, hasDict := true, slotNames := sn, subclasses := sub, abstract := ab, collection := col, hasDel := false } := ⟨_, X1 _ _ hC, rfl⟩
  refine ks_wpAny_isType_cls hD1 hD2 ⟨rfl, ?_⟩
  refine ks_wpAny_call_super hD1 hD2 hx1 rfl (fun c e => by cases e) (looks_mroIn X1 T.mr) (fun h2 e2 k2 => ?_)
  have X2 : K.In h2 := X1.keeps k2
  have hx2 := k2 _ _ hx1
  have I2 : InstAt h2 x (HandSPX.excO C t0) C none := ⟨hx2, rfl, rfl, trivial⟩
  have su := T.su
  unfold ks_superIn at su
  rw [hcl] at su
  refine kxs_getMethod kxs_ValueError e2 (looks_opaque X2 T.op) (l₀ := .ref C :: bm) (fun A Q E s k q => wpAny_bind ((looks_clsIn X2 hcl) A _ E s k (wpAny_pure q))) rfl X2 su (I2.type.andThen (looks_subIn X2 T.vE)) (ks_ne X2 I2 hcl) (by decide +kernel) ?_
  have hu : (h2.push (kxs_mw "ValueError.__init__" x)).get? h2.objs.size = some (kxs_mw "ValueError.__init__" x) := Heap.get?_push_at rfl rfl
  have k3 : ∀ b o, h2.get? b = some o → (h2.push (kxs_mw "ValueError.__init__" x)).get? b = some o := fun b o e => Heap.get?_push_of_some _ e
  obtain ⟨u, hue⟩ : ∃ u, u = h2.objs.size := ⟨_, rfl⟩
  rw [← hue] at hu
  rw [← hue]
  have kk : ∀ b o, h1.get? b = some o → (h2.push (kxs_mw "ValueError.__init__" x)).get? b = some o := fun b o e => k3 b o (k2 b o e)
  have hx3 := k3 _ _ hx2
  have X3 : K.In (h2.push (kxs_mw "ValueError.__init__" x)) := X2.keeps k3
  have big : L ≤ (h2.push (kxs_mw "ValueError.__init__" x)).objs.size := by
    obtain ⟨oL, es, ep, eL, _⟩ := ns1
    exact Nat.le_of_lt (Heap.lt_size (kk _ _ eL))
  have ns3 : (h2.push (kxs_mw "ValueError.__init__" x)).Ns L (fun y => [(Str.ofString "self", Value.ref x), (fld, v)].reverse.lookup y) := ns1.keeps kk
  generalize (h2.push (kxs_mw "ValueError.__init__" x)) = h3 at *
  show wpAny _ _ (callWith p3 (.ref u) [] (backTo p3 (starEach [msg] _)) []) _ _ _
  rw [Tx.star]
  refine kxs_callWith (i := "ValueError.__init__") (x := x) rfl (evalArgs_plain (Calls.spliced_cons (M _ _ _ _ v _ _ kf lfld ns3 fld1 hv fun z tk tk2 => Calls.spliced_nil ⟨hu, ?_⟩)))
  show wpAny _ _ (call (.ref u) [.str z tk]) _ _ _
  have FB := F.excBase_ValueError
  refine wpAny_call (codeAny_of_tree ?_)
  show wpAny _ (Around.in1 _) (callAny (.ref u) ⟨[.str z tk], []⟩) _ _ _
  simp only [callAny]
  refine wpAny_bind (wpAny_load hu ?_)
  have w1 : (Value.type "method-wrapper" == Value.type "method" || Value.type "method-wrapper" == Value.type "builtin_function_or_method" || Value.type "method-wrapper" == Value.type "method-wrapper") = true := by decide
  simp only [kxs_mw, w1, if_true]
  refine KFB.if_so (by decide) ?_
  refine wpAny_bind (check_bound_init FB.toExcCallFacts (X3 _ _ hC) hx3 rfl ?_)
  refine wpAny_bind (wpAny_pure (wpAny_pure ?_))
  refine ⟨plainId_quiet FB.init.plain _, codeAny_builtin FB.initEntry ?_⟩
  refine exc_init_tree (cls := .ref C) (t0 := t0) (dv := none) (c2 := .none) (c3 := .none) (b4 := .bool false) hx3 (by show 1 ≤ sizeLine; decide) (fun h4 k4 e4 f4 => ?_)
  -- self.fld = fld
  have xL : L ≠ x := fun z => by
    have := Heap.lt_size hx
    rw [← hL, z] at this
    exact Nat.lt_irrefl _ this
  have ns4 : h4.Ns L (fun y => [(Str.ofString "self", Value.ref x), (fld, v)].reverse.lookup y) := by
    obtain ⟨oL, es', ep, eL, r⟩ := ns3
    exact ⟨oL, es', ep, k4 _ _ xL eL, r⟩
  have X4 : K.In h4 := kept_but X3 hxK k4
  refine wpAt_of_wpAny (wpAny_execs_cons (plainObj_wpAny_Assign_Attribute ?_ ?sw))
  case sw => rfl
  refine ESX.ldL (v := v) ns4 fld1 (ESX.ldL (v := .ref x) ns4 self1 ?_ kf lself (by decide +kernel)) kf lfld n4
  have hx4 : h4.get? x = some { cls := .ref C, data := .fields #[.ref h3.objs.size, .none, .none, .none, .bool false, .none] } := e4
  refine set_plain X4 (ox := { cls := .ref C, data := .fields #[.ref h3.objs.size, .none, .none, .none, .bool false, .none] }) (od := none) ⟨hx4, rfl, rfl, trivial⟩ T.sa ?_
  refine HandSPX.exc_osa X4 hx4 hcl (show HandSPX.refsVE (.ref C :: bm) = true from hbm) rfl T.no (fun h5 tk5 dx k5 dn dne hx5 hn5 => ?_)
  show wpAny _ _ (execs [] _) _ _ _
  refine wpAny_execs_nil (hq h5 _ dx h3.objs.size ⟨fun b o hb e => k5 b o hb (k4 b o hb (kk b o (k1' b o e))), hx5, ?_, dne, hn5⟩)
  have b3 : h3.objs.size ≤ h4.objs.size := Nat.le_of_lt (Heap.lt_size f4)
  have b1 : s.heap.objs.size ≤ h3.objs.size := by rw [← hL]; exact big
  exact Nat.le_trans b1 (Nat.le_trans b3 dn)
end
end Lot

/-! Such an exception made, raised, its field read in a suite (after the block of the guide's 42_own_error_by_import). -/
namespace Lot
open PySem PySem.Spec PyProof.Rows PySem.W PySem.Calls
/-- a made one -/
structure SupMade (h h' : Heap) (e C d : Addr) (fld : Str) (v : Value) : Prop where
  keep : ∀ b o, h.get? b = some o → h'.get? b = some o
  new : h.objs.size ≤ e
  obj : ∃ oe vs, h'.get? e = some oe ∧ oe.cls = .ref C ∧ oe.dict = some d ∧ oe.data = .fields vs ∧ vs[1]? = some .none
  dbig : h.objs.size ≤ d
  dne : d ≠ e
  ns : h'.Ns1 d (fun y => if y = fld then some v else none)
section
variable {prog : Program} {w : World} {A : Around} {R : Result → Shared → Prop} {K : Frag} {mg mb : Str → Option Value} {st : Stmt} {qual fld : Str} {msg : Expr} {C fI cc cda : Addr} {ok : Value → Prop}
theorem sup_made (T : SupTxt prog K st qual fld msg C fI cc cda) (Tx : SupText st fld msg) (M : MsgOk prog w msg fld ok) {s : Shared} {v : Value} (KS : K.In s.heap) (gS : s.heap.Ns mainGlobals mg) (bS : s.heap.Ns builtinsNs mb)
    (bb : ∀ y : Str, y ≠ "__name__" → mb y = bootBuiltins y) (lS : s.heap.NoLimit) (room : A.depth + 1 < recursionLimit) (hv : ok v)
    (hq : ∀ h' tk e d, SupMade s.heap h' e C d fld v → R (.ok (.ret (.ref e))) { s with heap := h', toks := tk }) :
    codeAny (model prog w) A (.call (.ref C) ⟨[v], []⟩) R s := by
  obtain ⟨nm, q, N, bs, bm, sn, sub, ab, col, dd, k0, k1, k2, k3, k5, hC, hbm⟩ := T.cls
  obtain ⟨hp, g, dr, tk, os⟩ := s
  have k : ∀ b o, hp.get? b = some o → ((hp.push (kdv_tup [v])).push (HandSPX.excO C hp.objs.size)).get? b = some o := fun b o e => Heap.get?_push_of_some _ (Heap.get?_push_of_some _ e)
  have hget : ((hp.push (kdv_tup [v])).push (HandSPX.excO C hp.objs.size)).get? (hp.objs.size + 1) = some (HandSPX.excO C hp.objs.size) := by heap_get
  have hnx : K.lookup (hp.objs.size + 1) = none := by
    cases e : K.lookup (hp.objs.size + 1) with
    | none => rfl
    | some o =>
      have z : hp.get? (hp.objs.size + 1) = some o := KS _ _ e
      exact absurd (Nat.lt_of_succ_lt (Heap.lt_size z)) (Nat.lt_irrefl _)
  have sz : ((hp.push (kdv_tup [v])).push (HandSPX.excO C hp.objs.size)).objs.size = hp.objs.size + 1 + 1 := by rw [Heap.size_push, Heap.size_push]
  refine HandSPX.call_own F.excBase_ValueError (fun X => HandSPX.refsVE_contains X bm hbm) (KS _ _ hC) (looks_findIn KS T.iC) (fun self => bind_fn KS self T.tI) (by show 1 ≤ sizeLine; decide) ?_
  refine sup_init (s := ⟨(hp.push (kdv_tup [v])).push (HandSPX.excO C hp.objs.size), g, dr, tk, os⟩) T Tx M (KS.keeps k) (gS.keeps k) (bS.keeps k) bb (lS.keeps k) hget hnx ?_ hv fun h' tk' dx t1 E => ?_
  · show A.depth + 1 < recursionLimit
    exact room
  · have old : ∀ b o, hp.get? b = some o → h'.get? b = some o := fun b o e => E.keep b o (Nat.ne_of_lt (Nat.lt_succ_of_lt (Heap.lt_size e))) (k b o e)
    have z : hp.objs.size + 1 + 1 ≤ dx := by
      rw [← sz]
      exact E.dbig
    exact ⟨rfl, hq h' tk' (hp.objs.size + 1) dx ⟨old, Nat.le_succ _, ⟨_, _, E.obj, rfl, rfl, rfl, rfl⟩, Nat.le_trans (Nat.le_trans (Nat.le_succ _) (Nat.le_succ _)) z, E.dne, E.ns⟩⟩
end
end Lot
namespace Lot
open PySem PySem.Spec PyProof.Rows L2
/-- texts of one int between two written ones -/
def okInt (v : Value) : Prop := ∃ (i : Int) (t : Tok), v = .int i t ∧ i.natAbs.log2 < 1920
theorem relO_one {fld : Str} {v : V} {v' : Value} (r : RelV v v') (f : Str) : RelO (List.lookup f [(fld, v)]) (if f = fld then some v' else none) := by
  by_cases hw : f = fld
  · subst hw
    rw [if_pos rfl]
    have q : List.lookup f [(f, v)] = some v := by simp [List.lookup]
    rw [q]
    exact r
  · rw [if_neg hw]
    have qw : (f == fld) = false := by simpa using hw
    have q2 : List.lookup f [(fld, v)] = none := by simp [List.lookup, qw]
    rw [q2]
    trivial
section
variable {X : Cx} {st : Stmt} {cn qual fld : Str} {msg : Expr} {C fI cc cda : Addr} {okV : V → Prop} {ok : Value → Prop}
/-- C(e) -/
def tMkSup (C : Addr) (fld : Str) (okV : V → Prop) (ta : TA) : L2.St → Hp → XK → Prop := fun σ H Q => ta σ H fun vs H1 => ∃ v, vs = [v] ∧ okV v ∧ ∀ d, H1 d = none → Q (.ref C) (some d) (upd H1 d (.xd [(fld, v)]))
theorem pmk_sup {a : Expr} {ta : TA} {p pos : Pos} {k : Nat} (T : SupTxt X.prog X.K st qual fld msg C fI cc cda) (Tx : SupText st fld msg) (M : MsgOk X.prog X.w msg fld ok) (hok : ∀ v u, RelV v u → okV v → ok u) (gC : X.mg cn = some (.ref C)) (hr : Room k X.A) (ha : PA X [a] ta)
    (hg : Gl X cn := by rfl) (hdb : (cn == ("__debug__" : Str)) = false := by decide)
    (he : starEach (a :: []) X.env = (false, eval a X.env) :: starEach [] X.env := by rfl) (hpl : (backTo pos (starEach [] X.env)).any (·.1) = false := by rfl) :
    PMk X (.Call (.Name cn p) [a] [] pos) (tMkSup C fld okV ta) := by
  intro pins s σ H Q I h
  refine wpAny_Call_Name_kw (ld_glob I hg gC ?_ hdb)
  refine PySem.W.callWith_K (h₀ := X.base) I.ok.mod.kin T.kC (thn (ha.run pos pins s σ H _ I h) fun us s1 hh => ?_) he hpl
  obtain ⟨vs, H1, I1, r1, v, ev, okv, q1⟩ := hh
  subst ev
  refine ⟨I1.kIn, ?_⟩
  cases r1 with
  | cons rv rn =>
    rename_i v' us'
    cases rn
    show wpAny _ _ (call (.ref C) [v']) _ _ _
    have hlim := I1.nolimit
    obtain ⟨mb, b1, b2⟩ := I1.ok.mod.blt
    have gS := I1.ok.mod.glob.keeps I1.bk
    have bS := b1.keeps I1.bk
    obtain ⟨hp, g, dr, tk, os⟩ := s1
    refine wpAny_call (sup_made T Tx M I1.kIn gS bS b2 hlim (by have := hr.dp; omega) (hok v v' rv okv) fun h' tk' e d Md => ?_)
    show MkP X pins σ Q (.ref e) ⟨h', g, dr, tk', os⟩
    obtain ⟨oe, fv, hoe, hc, hd, hdat, h1⟩ := Md.obj
    have hns := Md.ns
    obtain ⟨G', g1, g2⟩ := restrict h' fun b => decide (b ≠ e)
    have gk : ∀ b, b ≠ e → G'.get? b = h'.get? b := fun b hb => g1 b (decide_eq_true hb)
    have ge : G'.get? e = none := g2 e (by simp)
    have old : ∀ b o, hp.get? b = some o → G'.get? b = some o := fun b o q => (gk b (Nat.ne_of_lt (Nat.lt_of_lt_of_le (Heap.lt_size q) Md.new))).trans (Md.keep b o q)
    have ob : ObjOk X.prog X.w (upd H1 d (.xd [(fld, v)])) G' d (.xd [(fld, v)]) := ⟨_, hns.at (fun o q => (gk d Md.dne).trans q), fun f => relO_one rv f⟩
    have J : Inv X pins σ (upd H1 d (.xd [(fld, v)])) ⟨G', g, dr, tk', os⟩ := I1.laid (t' := tk') old Md.dbig ob
    refine ⟨e, oe, fv, ⟨G', g, dr, tk', os⟩, _, .ref C, some d, rfl, J, fun b o q => ?_, ge, hoe, ⟨hc, hd⟩, hdat, h1, ?_, rfl, I1.bare, raises_own T.exC T.tyC, q1 d (I1.hok.fresh Md.dbig)⟩
    · by_cases hb : b = e
      · have q' : G'.get? b = some o := q
        rw [hb, ge] at q'; cases q'
      · exact (gk b hb).symm.trans q
    · rw [upd_ne (Ne.symm Md.dne)]
      exact I1.hok.fresh Md.new
/-- raise C(e) -/
def tRaiseSup (C : Addr) (fld : Str) (okV : V → Prop) (W : WX) (ta : TA) : TS := fun _ σ H => tMkSup C fld okV ta σ H fun cls d H' => W cls d σ H'
theorem ps_raiseSup {a : Expr} {ta : TA} {W : WX} {p pos pos2 : Pos} {k : Nat} (hc : X.calm = true) (T : SupTxt X.prog X.K st qual fld msg C fI cc cda) (Tx : SupText st fld msg) (M : MsgOk X.prog X.w msg fld ok) (hok : ∀ v u, RelV v u → okV v → ok u) (gC : X.mg cn = some (.ref C)) (hr : Room k X.A)
    (tk : Takes X W) (ha : PA X [a] ta) (hg : Gl X cn := by rfl) (hdb : (cn == ("__debug__" : Str)) = false := by decide)
    (he : starEach (a :: []) X.env = (false, eval a X.env) :: starEach [] X.env := by rfl) (hpl : (backTo pos (starEach [] X.env)).any (·.1) = false := by rfl) :
    PS X (.Raise (some (.Call (.Name cn p) [a] [] pos)) none pos2) (tRaiseSup C fld okV W ta) := ps_raise hc tk (pmk_sup T Tx M hok gC hr ha hg hdb he hpl)
/-- e.fld, e the exception that the suite holds (at a; its class cls, its dict d) -/
def tByFld (C : Addr) (fld : Str) (a : Addr) (cls : Value) (d : Option Addr) (te : TE) : TE := fun σ H Q => te σ H fun x H1 => x = .ref a ∧ cls = .ref C ∧ ∃ (dd : Addr) (v : V), d = some dd ∧ H1 dd = some (.xd [(fld, v)]) ∧ Q v H1
theorem pe_byFld {a : Addr} {oe : Obj} {cls : Value} {d : Option Addr} {pn : List (Addr × Obj)} {e : Expr} {te : TE} {pos : Pos} (T : SupTxt X.prog X.K st qual fld msg C fI cc cda) (hz : Zc cls d oe) (hf : ∃ vs, oe.data = .fields vs) (he : PE (X.suite a ((a, oe) :: pn)) e te)
    (hb : attributeBase e fld X.env (eval e X.env) = eval e X.env := by rfl) (hnd : (fld == ("__dict__" : Str)) = false := by decide) (hnc : (fld == ("__class__" : Str)) = false := by decide) :
    PE (X.suite a ((a, oe) :: pn)) (.Attribute e fld pos) (tByFld C fld a cls d te) := by
  refine ⟨fun pins s σ H Q I h => ?_⟩
  refine attr_of hb (thn (he.run pins s σ H _ I h) fun u s1 hh => ?_)
  obtain ⟨x, H1, I1, rx, ex, ec, dd, v, ed, ea, q⟩ := hh
  subst ex
  obtain rfl : u = Value.ref a := rx
  subst ec
  subst ed
  obtain ⟨ha, _⟩ := I1.pin (a, oe) (List.mem_append_left _ List.mem_cons_self)
  obtain ⟨vs, hd⟩ := hf
  have hx : ObjOk X.prog X.w H1 s1.heap dd (.xd [(fld, v)]) := I1.hok dd _ ea
  obtain ⟨mA, hns, hr⟩ := hx
  obtain ⟨od, ho, hl⟩ := lookIn_ns hns
  have l : List.lookup fld [(fld, v)] = some v := by simp [List.lookup]
  obtain ⟨u, hu, ru⟩ := RelO.some_of (v := v) (o := mA fld) (by rw [← l]; exact hr fld)
  have J : PySem.W.InstAt s1.heap a oe C (some od) := ⟨ha, hz.1, by unfold PySem.W.notCls; rw [hd] <;> rfl, by rw [hz.2]; exact ho⟩
  exact HandSPX.exc_get I1.kIn J T.ga T.gg T.exC (PySem.W.findObj_own T.hdC T.no rfl (by rw [hl, hu])) (handed_of ru) ⟨v, H1, I1.tok _, ru, q⟩
end
end Lot
namespace Lot
open PySem PySem.Spec PyProof.Rows
/-- an f-string: a written text, the field, a written text -/
theorem msg_mid {prog : Program} {w : World} {fld a b : Str} {k1 k2 : _} {p1 p2 p3 p4 p5 : Pos} (hnd : (fld == ("__debug__" : Str)) = false) (ha : a.length ≤ 1000) (hb : b.length ≤ 1000) :
    MsgOk prog w (.JoinedStr [.Constant (.str a) k1 p1, .FormattedValue (.Name fld p2) (-1) none p3, .Constant (.str b) k2 p4] p5) fld okInt := by
  intro A E Q env v s m kf kl hn hm hv q
  obtain ⟨i, t, rfl, hz⟩ := hv
  have len : ∀ x y : Str, (x ++ y).length = x.length + y.length := str_app_len
  have e0 : Str.empty.length = 0 := rfl
  have hi := PyProof.Rows.int_text_len_1921 hz
  have hs : 10000 ≤ sizeLine := by decide
  refine wpAny_JoinedStr ?_
  show Joins _ _ _ [eval (.Constant (.str a) k1 p1) env, eval (.FormattedValue (.Name fld p2) (-1) none p3) env, eval (.Constant (.str b) k2 p4) env] _ _ _
  refine Calls.Constant_str ⟨a, _, rfl, by rw [len]; omega, ?_⟩
  refine wpAny_FormattedValue_plain (ESX.ldL hn hm ?_ kf kl hnd)
  refine wpAny_formatField_int hz ⟨_, _, rfl, by rw [len, len]; have : (toString i : Str).length ≤ 1921 := hi; omega, ?_⟩
  refine Calls.Constant_str ⟨b, _, rfl, by rw [len, len, len]; have : (toString i : Str).length ≤ 1921 := hi; omega, ?_⟩
  exact ⟨by rw [len, len, len]; have : (toString i : Str).length ≤ 1921 := hi; omega, q _ _ _⟩
end Lot
namespace Lot
open PySem PySem.Spec PyProof.Rows L2
def okI (v : V) : Prop := ∃ i : Int, v = .int i ∧ i.natAbs.log2 < 1920
theorem okI_rel (v : V) (u : Value) (r : RelV v u) (h : okI v) : okInt u := by
  obtain ⟨i, rfl, hz⟩ := h
  obtain ⟨t, rfl⟩ := r
  exact ⟨i, t, rfl, hz⟩
theorem okI_nat {n : Nat} (h : n < 2 ^ 100) : okI (.int (n : Int)) := ⟨n, rfl, by
  have : ((n : Int)).natAbs = n := Int.natAbs_natCast n
  rw [this]
  exact Nat.lt_trans (PySem.Flt.log2_lt_of (by decide) h) (by decide)⟩
/-- a def of the text that may raise, ready to be called -/
structure DefX (P : Program) (w : World) (K : PySem.W.Frag) (mg : Str → Option Value) (base : Heap) (k : Nat) (x : Str) (ps : List Str) (sp : Sp) (f : Addr) (fd : FuncData) : Prop where
  ok : FnOk P w K mg base (L2.CX P w) k f fd ps sp
  g : mg x = some (.ref f)
  kp : PySem.W.keepIn K (.ref f) = true
  b : Binds K fd ps []
end Lot
namespace Lot
open PySem PySem.Spec PyProof.Rows
/-- an error of the class at S is what «except S» names -/
theorem exm_self {K : PySem.W.Frag} {S : Addr} (h1 : PySem.W.subIn K (.ref S) (.type "BaseException") = some true) (h2 : PySem.W.isClsIn K S = true) (h3 : PySem.W.typeIn K (.ref S) = some (.type "type")) (h4 : PySem.W.subIn K (.ref S) (.ref S) = some true) :
    PySem.W.exmOne K (.ref S) (.ref S) = some true := by
  have e1 : (PySem.W.subIn K (.ref S) (.type "BaseException") == some true) = true := by rw [h1] <;> rfl
  have e2 : ((PySem.W.clsIn K S).isSome && PySem.W.typeIn K (.ref S) == some (.type "type")) = true := by
    have h2' : (PySem.W.clsIn K S).isSome = true := h2
    rw [h2', h3] <;> rfl
  show (if (PySem.W.subIn K (.ref S) (.type "BaseException") == some true) = true then (if ((PySem.W.clsIn K S).isSome && PySem.W.typeIn K (.ref S) == some (.type "type")) = true then PySem.W.subIn K (.ref S) (.ref S) else none) else none) = some true
  rw [if_pos e1, if_pos e2]
  exact h4
end Lot

namespace Lot
open PySem PySem.Spec PyProof.Rows L2
def blank : Str := Str.ofString " "
theorem spl_le (S : List Nat) : ∀ (l : List Nat) (k : Nat) (acc : List Nat), (∀ p ∈ TL.spl S k acc l, p.length ≤ acc.length + l.length) ∧ (TL.spl S k acc l).length ≤ l.length + 1
  | [], k, acc => by
    rw [TL.spl_nil]
    refine ⟨fun p hp => ?_, Nat.le_refl _⟩
    rw [List.mem_singleton.mp hp]
    exact Nat.le_add_right _ _
  | c :: r, 0, acc => by
    cases h : TL.pre S (c :: r) with
    | true =>
      rw [TL.spl_hit h]
      have ih := spl_le S r (S.length - 1) []
      refine ⟨fun p hp => ?_, ?_⟩
      · rcases List.mem_cons.mp hp with rfl | hp
        · exact Nat.le_add_right _ _
        · have := ih.1 p hp
          simp only [List.length_nil, List.length_cons] at *
          omega
      · rw [List.length_cons, List.length_cons]
        exact Nat.succ_le_succ ih.2
    | false =>
      rw [TL.spl_miss h]
      have ih := spl_le S r 0 (acc ++ [c])
      refine ⟨fun p hp => ?_, ?_⟩
      · have := ih.1 p hp
        rw [List.length_append, List.length_singleton] at this
        rw [List.length_cons]
        omega
      · rw [List.length_cons]
        exact Nat.le_succ_of_le ih.2
  | c :: r, k + 1, acc => by
    show (∀ p ∈ TL.spl S k acc r, _) ∧ (TL.spl S k acc r).length ≤ _
    have ih := spl_le S r k acc
    refine ⟨fun p hp => ?_, ?_⟩
    · have := ih.1 p hp
      rw [List.length_cons]
      omega
    · rw [List.length_cons]
      exact Nat.le_succ_of_le ih.2
theorem spl_mem (S : List Nat) : ∀ (l : List Nat) (k : Nat) (acc : List Nat), ∀ p ∈ TL.spl S k acc l, ∀ c ∈ p, c ∈ acc ∨ c ∈ l
  | [], k, acc => by
    rw [TL.spl_nil]
    intro p hp c hc
    rw [List.mem_singleton.mp hp] at hc
    exact .inl hc
  | x :: r, 0, acc => by
    cases h : TL.pre S (x :: r) with
    | true =>
      rw [TL.spl_hit h]
      intro p hp c hc
      rcases List.mem_cons.mp hp with rfl | hp
      · exact .inl hc
      · rcases spl_mem S r (S.length - 1) [] p hp c hc with h | h
        · cases h
        · exact .inr (List.mem_cons_of_mem _ h)
    | false =>
      rw [TL.spl_miss h]
      intro p hp c hc
      rcases spl_mem S r 0 (acc ++ [x]) p hp c hc with h | h
      · rcases List.mem_append.mp h with h | h
        · exact .inl h
        · rw [List.mem_singleton.mp h]; exact .inr List.mem_cons_self
      · exact .inr (List.mem_cons_of_mem _ h)
  | x :: r, k + 1, acc => by
    intro p hp c hc
    have hp' : p ∈ TL.spl S k acc r := hp
    exact (spl_mem S r k acc p hp' c hc).imp_right (List.mem_cons_of_mem _)
/-- .. and they have no other signs -/
theorem split_mem (x : Str) : ∀ z ∈ Txt.split x blank, ∀ c ∈ z.cps.toList, c ∈ x.cps.toList := by
  have e := TL.split_spl x blank (by decide +kernel) (TL.kind_ok (by decide +kernel))
  intro z hz c hc
  have h := spl_mem (TL.tl blank) (TL.tl x) 0 [] (TL.tl z) (by rw [← e]; exact List.mem_map_of_mem hz) c hc
  rcases h with h | h
  · cases h
  · exact h
/-- the words of a text: none is longer than it -/
theorem split_le (x : Str) : (∀ z ∈ Txt.split x blank, z.length ≤ x.length) ∧ (Txt.split x blank).length ≤ x.length + 1 := by
  have e := TL.split_spl x blank (by decide +kernel) (TL.kind_ok (by decide +kernel))
  have h := spl_le (TL.tl blank) (TL.tl x) 0 []
  rw [← e] at h
  rw [List.length_map] at h
  rw [TL.len_tl x]
  refine ⟨fun z hz => ?_, h.2⟩
  have := h.1 (TL.tl z) (List.mem_map_of_mem hz)
  rw [TL.len_tl z]
  simpa using this
/-- the first word that is not due, or how many there are where words lack -/
def firstBad (due wide : Nat) : Nat → List Str → Option Nat
  | i, [] => if i < due then some i else none
  | i, z :: r => if (decide (due ≤ i) || !isDue z i wide) = true then some i else firstBad due wide (i + 1) r
def dueMany (bd : Bd) : Nat := bd.high * (bd.wide + 1) - 1
def badAt (bd : Bd) (text : Str) : Option Nat := firstBad (dueMany bd) bd.wide 0 (Txt.split text blank)
def thingsIn (ws : List Str) : List (Str × Nat) := (ws.filter fun z => !decide (z = slash)).map thingOf
/-- words that were due up to place i: the first that isn't stands behind them -/
theorem firstBad_app {due wide : Nat} : ∀ {ws : List Str} {i k : Nat}, (∀ j z, j < i → ws[j]? = some z → (decide (due ≤ k + j) || !isDue z (k + j) wide) = false) → i ≤ ws.length → firstBad due wide k ws = firstBad due wide (k + i) (ws.drop i)
  | ws, 0, k, _, _ => by rw [List.drop_zero, Nat.add_zero]
  | [], i + 1, k, _, h => by simp at h
  | z :: r, i + 1, k, h, hl => by
    have h0 := h 0 z (Nat.succ_pos i) rfl
    rw [Nat.add_zero] at h0
    show (if (decide (due ≤ k) || !isDue z k wide) = true then some k else firstBad due wide (k + 1) r) = _
    rw [h0, if_neg Bool.false_ne_true]
    rw [firstBad_app (ws := r) (i := i) (k := k + 1) (fun j y hj hy => by
      have := h (j + 1) y (Nat.succ_lt_succ hj) (by rw [List.getElem?_cons_succ]; exact hy)
      rw [show k + 1 + j = k + (j + 1) by omega]
      exact this) (by rw [List.length_cons] at hl; omega)]
    rw [List.drop_succ_cons, show k + 1 + i = k + (i + 1) by omega]
theorem firstBad_here {due wide : Nat} {ws : List Str} {i : Nat} {z : Str} (h : ∀ j z, j < i → ws[j]? = some z → (decide (due ≤ j) || !isDue z j wide) = false) (hz : ws[i]? = some z) (hb : (decide (due ≤ i) || !isDue z i wide) = true) : firstBad due wide 0 ws = some i := by
  have hi := (List.getElem?_eq_some_iff.mp hz).1
  rw [firstBad_app (i := i) (k := 0) (fun j y hj hy => by rw [Nat.zero_add]; exact h j y hj hy) (Nat.le_of_lt hi), Nat.zero_add]
  have ed : ws.drop i = z :: ws.drop (i + 1) := by
    rw [List.drop_eq_getElem_cons hi]
    have := (List.getElem?_eq_some_iff.mp hz).2
    rw [this]
  rw [ed]
  show (if (decide (due ≤ i) || !isDue z i wide) = true then some i else _) = _
  rw [if_pos hb]
theorem firstBad_end {due wide : Nat} {ws : List Str} (h : ∀ j z, ws[j]? = some z → (decide (due ≤ j) || !isDue z j wide) = false) : firstBad due wide 0 ws = if ws.length < due then some ws.length else none := by
  rw [firstBad_app (i := ws.length) (k := 0) (fun j y hj hy => by rw [Nat.zero_add]; exact h j y hy) (Nat.le_refl _), List.drop_length, Nat.zero_add]
  rfl
/-- nothing is wrong: every word is due, they are as many as are due -/
theorem firstBad_none {due wide : Nat} : ∀ {ws : List Str} {k : Nat}, firstBad due wide k ws = none → k ≤ due → (∀ j z, ws[j]? = some z → isDue z (k + j) wide = true) ∧ k + ws.length = due
  | [], k, h, hk => by
    unfold firstBad at h
    by_cases c : k < due
    · rw [if_pos c] at h; cases h
    · exact ⟨fun j z e => by simp at e, by show k + 0 = due; omega⟩
  | z :: r, k, h, hk => by
    unfold firstBad at h
    by_cases c : (decide (due ≤ k) || !isDue z k wide) = true
    · rw [if_pos c] at h; cases h
    · rw [if_neg c] at h
      have c' : (decide (due ≤ k) || !isDue z k wide) = false := by simpa using c
      rw [Bool.or_eq_false_iff] at c'
      have hk' : ¬ due ≤ k := of_decide_eq_false c'.1
      have ih := firstBad_none h (by omega)
      refine ⟨fun j y e => ?_, by rw [List.length_cons]; omega⟩
      cases j with
      | zero =>
        have : z = y := Option.some.inj e
        subst this
        simpa using c'.2
      | succ j =>
        rw [List.getElem?_cons_succ] at e
        have := ih.1 j y e
        rw [show k + (j + 1) = k + 1 + j by omega]
        exact this
end Lot

namespace Lot
open PySem PySem.Spec PyProof.Rows L2
/-! ### list(text) -/
def signs (z : Str) : List V := z.cps.toList.map fun c => .str ⟨#[c]⟩
theorem call_list_text {X : Cx} (hc : X.calm = true) : CallR X (.type "list") (fun xs H Q => ∃ z : Str, xs = [.str z] ∧ z.length ≤ sizeLine ∧ ∀ p, H p = none → Q (.ref p) (upd H p (.lst (signs z)))) := by
  intro pins s σ H xs us Q I r h
  obtain ⟨z, rfl, hz, q⟩ := h
  obtain ⟨u, rfl, rx⟩ := vals1 r
  obtain ⟨t, rfl⟩ := rx
  refine PySem.call_list_str (I.ok.hd hc) z t (fun h' tk acc' c' hkeep hS hacc => ?_) hz
  have hl : (signs z).length = z.cps.size := by unfold signs; rw [List.length_map, Array.length_toList]
  refine ⟨.ref s.heap.objs.size, upd H s.heap.objs.size (.lst (signs z)), I.laid hkeep (Nat.le_refl _) (show ObjOk X.prog X.w _ _ _ (.lst (signs z)) from ⟨?_, acc'.toList, c', ?_, ?_⟩), rfl, q _ (I.hok.fresh (Nat.le_refl _))⟩
  · rw [hl]; exact hz
  · have el : acc'.toList.length = acc'.size := by simp
    refine vals_of_at (by rw [el, hacc.1, hl]) fun j x w h1 h2 => ?_
    obtain ⟨c, tk2, hc1, rfl⟩ := hacc.2 j w (by rw [← Array.getElem?_toList]; exact h2)
    unfold signs at h1
    rw [List.getElem?_map, Array.getElem?_toList, hc1] at h1
    cases h1
    exact ⟨_, rfl⟩
  · rw [Array.toArray_toList]; exact hS
end Lot
namespace Lot
open PySem PySem.Spec PyProof.Rows L2
/-! ### data: lists of signs -/
def dSigns (l : List Nat) : PyData := .list (l.map fun c => .str ⟨#[c]⟩)
theorem signs_data {K : PySem.W.Frag} {H : Hp} : ∀ l : List Nat, DpAll K H (l.map fun c => V.str ⟨#[c]⟩) (l.map fun c => PyData.str ⟨#[c]⟩)
  | [] => .nil
  | c :: l => .cons (.str _) (signs_data l)
theorem signs_can : ∀ l : List Nat, (∀ c ∈ l, c < 128) → PyData.canLayAll0 (l.map fun c => PyData.str ⟨#[c]⟩) = true
  | [], _ => rfl
  | c :: l, h => by
    show (PyData.canLay0 (.str ⟨#[c]⟩) && PyData.canLayAll0 (l.map fun c => PyData.str ⟨#[c]⟩)) = true
    rw [signs_can l fun x hx => h x (List.mem_cons_of_mem _ hx), Bool.and_true]
    have hc := h c List.mem_cons_self
    have key : ∀ n : Nat, n < 128 → PyData.canLay0 (.str ⟨#[n]⟩) = true := by decide +kernel
    exact key c hc
theorem signs_depth : ∀ l : List Nat, PyData.depthAll (l.map fun c => PyData.str ⟨#[c]⟩) = 0
  | [] => rfl
  | c :: l => by
    show max 0 (PyData.depthAll (l.map fun c => PyData.str ⟨#[c]⟩)) = 0
    rw [signs_depth l]
    rfl
theorem signs_shaped {l : List Nat} (h : ∀ c ∈ l, c < 128) : SeqAt.shaped (dSigns l) = true := by
  unfold SeqAt.shaped
  rw [Bool.and_eq_true]
  refine ⟨signs_can l h, decide_eq_true ?_⟩
  show PyData.depthAll _ + 1 ≤ 64
  rw [signs_depth]
  decide
theorem signs_nil (l : List Nat) : PyData.eqv (dSigns l) (.list []) = l.isEmpty := by
  cases l with
  | nil => rfl
  | cons c r => rfl
/-! ### the law's own reading, cell by cell -/
theorem cut_head (z : Str) : (cutS z none (some 1) = minus) ↔ Txt.startswith z minus = true := by
  rw [starts_iff]
  unfold cutS
  have e1 : HT.sIx z.length z.length (some 1) = min 1 z.length := HT.sIx_nat z.length z.length 1
  rw [e1, HT.sIx_none]
  have hl : z.length = z.cps.toList.length := by simp [Str.length]
  rw [hl, List.drop_zero, minus_is]
  cases z.cps.toList with
  | nil => exact ⟨(fun h => by cases h), (fun h => by cases h)⟩
  | cons x r =>
    rw [show min 1 (x :: r).length = 1 by rw [List.length_cons]; omega]
    show ((⟨#[x]⟩ : Str) = ⟨#[45]⟩) ↔ some x = some 45
    constructor
    · intro h
      have := Str.mk.inj h
      simpa using this
    · intro h
      rw [Option.some.inj h]
theorem cut_zero (z : Str) : cutS z (some 0) none = z := by
  unfold cutS
  have e1 : HT.sIx z.length 0 (some 0) = min 0 z.length := HT.sIx_nat z.length 0 0
  rw [e1, HT.sIx_none, Nat.zero_min, List.drop_zero, Nat.sub_zero]
  have hl : z.length = z.cps.toList.length := by simp [Str.length]
  rw [hl, List.take_length]
/-- the place of cell c's word -/
def pos (w c : Nat) : Nat := (c / w) * (w + 1) + c % w
def edgeN (w c : Nat) : Bool := decide (0 < c) && decide (c % w = 0)
/-- where the reading stands ahead of cell c -/
def ahead (w c : Nat) : Nat := pos w c - (if edgeN w c then 1 else 0)
theorem pos_mod {w c : Nat} (hw : 0 < w) : pos w c % (w + 1) = c % w := by
  unfold pos
  rw [Nat.mul_comm, Nat.mul_add_mod]
  exact Nat.mod_eq_of_lt (by have := Nat.mod_lt c hw; omega)
theorem edge_pos {w c : Nat} (hw : 0 < w) (h : edgeN w c = true) : 1 ≤ pos w c ∧ (pos w c - 1) % (w + 1) = w ∧ c % w = 0 := by
  unfold edgeN at h
  rw [Bool.and_eq_true] at h
  have h0 := of_decide_eq_true h.1
  have h1 := of_decide_eq_true h.2
  have hq : 1 ≤ c / w := by
    have := Nat.div_add_mod c w
    rw [h1, Nat.add_zero] at this
    cases hz : c / w with
    | zero => rw [hz, Nat.mul_zero] at this; omega
    | succ n => omega
  obtain ⟨n, hn⟩ : ∃ n, c / w = n + 1 := ⟨c / w - 1, by omega⟩
  have e : pos w c = n * (w + 1) + w + 1 := by
    unfold pos
    rw [h1, hn, Nat.succ_mul]
    omega
  refine ⟨by omega, ?_, h1⟩
  rw [e, show n * (w + 1) + w + 1 - 1 = (w + 1) * n + w by rw [Nat.mul_comm]; omega, Nat.mul_add_mod]
  exact Nat.mod_eq_of_lt (Nat.lt_succ_self w)
theorem ahead_zero (w : Nat) : ahead w 0 = 0 := by
  unfold ahead pos
  simp
theorem ahead_succ {w c : Nat} (hw : 0 < w) : ahead w (c + 1) = pos w c + 1 := by
  have hm := Nat.mod_lt c hw
  have hd := Nat.div_add_mod c w
  unfold ahead
  by_cases h : c % w + 1 = w
  · have e1 : c + 1 = w * (c / w + 1) := by
      rw [Nat.mul_succ]
      omega
    have em : (c + 1) % w = 0 := by rw [e1]; exact Nat.mul_mod_right _ _
    have ed : (c + 1) / w = c / w + 1 := by rw [e1]; exact Nat.mul_div_cancel_left _ hw
    have ee : edgeN w (c + 1) = true := by
      unfold edgeN
      rw [decide_eq_true (Nat.succ_pos c), decide_eq_true em]
      rfl
    rw [ee, if_pos rfl]
    unfold pos
    rw [em, ed, Nat.succ_mul]
    omega
  · have hm2 : c % w + 1 < w := by omega
    have e1 : c + 1 = w * (c / w) + (c % w + 1) := by omega
    have em : (c + 1) % w = c % w + 1 := by
      rw [e1, Nat.mul_add_mod]
      exact Nat.mod_eq_of_lt hm2
    have ed : (c + 1) / w = c / w := by
      rw [e1, Nat.mul_add_div hw, Nat.div_eq_of_lt hm2, Nat.add_zero]
    have ee : edgeN w (c + 1) = false := by
      unfold edgeN
      rw [decide_eq_false (show ¬ (c + 1) % w = 0 by rw [em]; omega), Bool.and_false]
    rw [ee, if_neg (by decide)]
    unfold pos
    rw [em, ed]
    omega
theorem ahead_end {w h : Nat} (hw : 0 < w) (hh : 0 < h) : ahead w (h * w) = h * (w + 1) - 1 := by
  have em : h * w % w = 0 := Nat.mul_mod_left _ _
  have ee : edgeN w (h * w) = true := by
    unfold edgeN
    rw [decide_eq_true (Nat.mul_pos hh hw), decide_eq_true em]
    rfl
  unfold ahead
  rw [ee, if_pos rfl]
  unfold pos
  rw [em, Nat.mul_div_cancel _ hw, Nat.add_zero]
theorem pos_lt {w h c : Nat} (hw : 0 < w) (hc : c < h * w) : pos w c < h * (w + 1) - 1 := by
  have hm := Nat.mod_lt c hw
  have hq : c / w < h := (Nat.div_lt_iff_lt_mul hw).mpr hc
  have h2 : (c / w + 1) * (w + 1) ≤ h * (w + 1) := Nat.mul_le_mul_right _ hq
  rw [Nat.succ_mul] at h2
  unfold pos
  omega
/-- a board's edges are those of its width -/
theorem Bd.edge_is {bd : Bd} (ok : bd.Ok 36) {c : Nat} (hc : c < bd.cells) : bd.edge c = edgeN bd.wide c := by
  have plain : ∀ n, bd.wide = n → bd.cells = n → bd.edge c = false → bd.edge c = edgeN bd.wide c := fun n e1 e2 e3 => by
    rw [e3, e1]
    unfold edgeN
    by_cases h : 0 < c
    · rw [Nat.mod_eq_of_lt (by omega), decide_eq_false (show ¬ c = 0 by omega), Bool.and_false]
    · rw [decide_eq_false h, Bool.false_and]
  cases bd with
  | row n => exact plain n rfl (Nat.one_mul n) rfl
  | ring n => exact plain n rfl (Nat.one_mul n) rfl
  | floor h w => rfl
/-- all words ahead of place n are due -/
def Good (bd : Bd) (ws : List Str) (n : Nat) : Prop := n ≤ ws.length ∧ n ≤ dueMany bd ∧ ∀ j z, j < n → ws[j]? = some z → (decide (dueMany bd ≤ j) || !isDue z j bd.wide) = false
theorem Good.next {bd : Bd} {ws : List Str} {n : Nat} {z : Str} (g : Good bd ws n) (hn : n < dueMany bd) (hz : ws[n]? = some z) (hd : isDue z n bd.wide = true) : Good bd ws (n + 1) := by
  have hl := (List.getElem?_eq_some_iff.mp hz).1
  refine ⟨hl, hn, fun j y hj hy => ?_⟩
  by_cases c : j = n
  · subst c
    rw [hz] at hy
    rw [← Option.some.inj hy, hd, decide_eq_false (by omega)]
    rfl
  · exact g.2.2 j y (by omega) hy
theorem Good.bad {bd : Bd} {ws : List Str} {n : Nat} {z : Str} (g : Good bd ws n) (hz : ws[n]? = some z) (hb : dueMany bd ≤ n ∨ isDue z n bd.wide = false) : firstBad (dueMany bd) bd.wide 0 ws = some n := by
  refine firstBad_here g.2.2 hz ?_
  rcases hb with hb | hb
  · rw [decide_eq_true hb, Bool.true_or]
  · rw [hb]
    simp
theorem Good.lacks {bd : Bd} {ws : List Str} (g : Good bd ws ws.length) (h : ws.length < dueMany bd) : firstBad (dueMany bd) bd.wide 0 ws = some ws.length := by
  rw [firstBad_end fun j z hz => g.2.2 j z (List.getElem?_eq_some_iff.mp hz).1 hz, if_pos h]
theorem Good.whole {bd : Bd} {ws : List Str} (g : Good bd ws ws.length) (h : ws.length = dueMany bd) : firstBad (dueMany bd) bd.wide 0 ws = none := by
  rw [firstBad_end fun j z hz => g.2.2 j z (List.getElem?_eq_some_iff.mp hz).1 hz, if_neg (by omega)]
theorem things_slash {ws : List Str} {n : Nat} (hz : ws[n]? = some slash) : thingsIn (ws.take (n + 1)) = thingsIn (ws.take n) := by
  unfold thingsIn
  rw [List.take_add_one, hz, List.filter_append, show (some slash).toList = [slash] from rfl, List.filter_cons_of_neg (by simp), List.filter_nil, List.append_nil]
theorem things_more {ws : List Str} {n : Nat} {z : Str} (hz : ws[n]? = some z) (h : z ≠ slash) : thingsIn (ws.take (n + 1)) = thingsIn (ws.take n) ++ [thingOf z] := by
  unfold thingsIn
  rw [List.take_add_one, hz, List.filter_append, show (some z).toList = [z] from rfl, List.filter_cons_of_pos (by rw [decide_eq_false h]; rfl), List.filter_nil, List.map_append]
  rfl
theorem name_slash {z : Str} (h : isName (thingOf z).1 = true) : z ≠ slash := fun e => by
  rw [e] at h
  have : isName (thingOf slash).1 = false := by decide +kernel
  rw [this] at h
  cases h
end Lot
namespace Lot
open PySem PySem.Spec PyProof.Rows L2
def AscS (z : Str) : Prop := ∀ c ∈ z.cps.toList, c < 128
theorem AscS.app {a b : Str} (h : AscS a) (g : AscS b) : AscS (a ++ b) := fun c hc => by
  have : c ∈ (a.cps ++ b.cps).toList := hc
  rw [Array.toList_append, List.mem_append] at this
  exact this.elim (h c) (g c)
theorem AscS.cut {z : Str} (h : AscS z) (lo hi : Option Int) : AscS (cutS z lo hi) := fun c hc => by
  unfold cutS at hc
  exact h c (List.mem_of_mem_drop (List.mem_of_mem_take hc))
theorem AscS.one {c : Nat} (h : c < 128) : AscS ⟨#[c]⟩ := fun d hd => by
  have : d = c := by simpa using hd
  omega
theorem AscS.join {s : Str} (hs : AscS s) : ∀ {ys : List Str}, (∀ z ∈ ys, AscS z) → AscS (Str.join s ys)
  | [], _ => fun c hc => by cases hc
  | [x], h => h x List.mem_cons_self
  | x :: y :: r, h => by
    have ih := AscS.join hs (ys := y :: r) fun z hz => h z (List.mem_cons_of_mem _ hz)
    exact ((h x List.mem_cons_self).app hs).app ih
theorem cut_len (z : Str) (lo hi : Option Int) : (cutS z lo hi).length ≤ z.length := cutS_length z lo hi
/-- slices of lists of texts -/
def cutL (l : List Str) (lo hi : Option Int) : List Str := (l.drop (HT.sIx l.length 0 lo)).take (HT.sIx l.length l.length hi - HT.sIx l.length 0 lo)
theorem cutV_map (l : List Str) (lo hi : Option Int) : cutV (l.map V.str) lo hi = (cutL l lo hi).map V.str := by
  unfold cutV cutL
  rw [List.length_map, List.map_take, List.map_drop]
theorem cutL_mem {l : List Str} {lo hi : Option Int} {z : Str} (h : z ∈ cutL l lo hi) : z ∈ l := List.mem_of_mem_drop (List.mem_of_mem_take h)
theorem cutL_len (l : List Str) (lo hi : Option Int) : (cutL l lo hi).length ≤ l.length := by
  unfold cutL
  rw [List.length_take, List.length_drop]
  omega
/-- what is read of words that are all due -/
theorem things_ok {bd : Bd} {text : Str} (h : badAt bd text = none) : ∀ th ∈ thingsIn (Txt.split text blank), ThOk th := by
  intro th hth
  unfold thingsIn at hth
  obtain ⟨z, hz, rfl⟩ := List.mem_map.mp hth
  obtain ⟨hz1, hz2⟩ := List.mem_filter.mp hz
  obtain ⟨j, hj⟩ := List.getElem?_of_mem hz1
  have hd := (firstBad_none h (Nat.zero_le _)).1 j z hj
  have hs : z ≠ slash := fun e => by rw [e] at hz2; simp at hz2
  refine ⟨isName_iff.mp ?_, ?_⟩
  · unfold isDue at hd
    by_cases c : (0 + j) % (bd.wide + 1) = bd.wide
    · rw [if_pos c] at hd
      exact absurd (of_decide_eq_true hd) hs
    · rw [if_neg c] at hd
      exact hd
  · unfold thingOf
    split
    · show 1 < 2
      decide
    · show 0 < 2
      decide
theorem things_few {bd : Bd} (ok : bd.Ok 36) {text : Str} (h : badAt bd text = none) : (thingsIn (Txt.split text blank)).length ≤ 2000 := by
  have hd := (firstBad_none h (Nat.zero_le _)).2
  have hw : bd.high ≤ 36 ∧ bd.wide ≤ 36 := by
    cases bd with
    | row n => exact ⟨by show 1 ≤ 36; decide, ok.2⟩
    | ring n => exact ⟨by show 1 ≤ 36; decide, ok.2⟩
    | floor hh w =>
      obtain ⟨o1, o2, o3⟩ := ok
      exact ⟨Nat.le_trans (Nat.le_mul_of_pos_right hh o2) o3, Nat.le_trans (Nat.le_mul_of_pos_left w o1) o3⟩
  have hm : bd.high * (bd.wide + 1) ≤ 36 * 37 := Nat.mul_le_mul hw.1 (by omega)
  unfold thingsIn
  rw [List.length_map]
  refine Nat.le_trans (List.length_filter_le _ _) ?_
  unfold dueMany at hd
  omega
end Lot
namespace Lot
open PySem PySem.Spec PyProof.Rows L2
theorem firstBad_le {due wide : Nat} : ∀ {ws : List Str} {k i : Nat}, firstBad due wide k ws = some i → i ≤ k + ws.length
  | [], k, i, h => by
    unfold firstBad at h
    split at h
    · have := Option.some.inj h
      omega
    · cases h
  | z :: r, k, i, h => by
    unfold firstBad at h
    split at h
    · have := Option.some.inj h
      omega
    · have := firstBad_le h
      rw [List.length_cons]
      omega
theorem bad_le {bd : Bd} {text : Str} {i : Nat} (h : badAt bd text = some i) (hl : text.length ≤ 10000) : i ≤ 10001 := by
  have h1 := firstBad_le h
  have h2 := (Lot.split_le text).2
  omega
/-- what repr asks of a small int -/
theorem dInt_ok {i : Nat} (h : i ≤ 10001) : (PyData.int (i : Int)).showable = true ∧ (PyData.int (i : Int)).hasDict = false ∧ (PyData.int (i : Int)).depth ≤ 50 ∧ (PyData.int (i : Int)).shown.length ≤ sizeLine := by
  have hz : ((i : Int)).natAbs.log2 < 1920 := by
    rw [Int.natAbs_natCast]
    exact Nat.lt_trans (PySem.Flt.log2_lt_of (k := 20) (by decide) (Nat.lt_of_le_of_lt h (by decide))) (by decide)
  exact ⟨decide_eq_true hz, rfl, Nat.zero_le _, PySem.int_text_fits hz⟩
end Lot

namespace Lot
open PySem PySem.Spec PyProof.Rows L2
theorem size_eq {h w h' w' : Nat} (hh : 0 < h) (e1 : h * w = h' * w') (e2 : h * (w + 1) = h' * (w' + 1)) : h = h' ∧ w = w' := by
  rw [Nat.mul_succ, Nat.mul_succ, e1] at e2
  have : h = h' := by omega
  subst this
  exact ⟨rfl, Nat.eq_of_mul_eq_mul_left hh e1⟩
theorem wide_high {bd bd' : Bd} (ok : bd.Ok 36) (hc : bd.cells = bd'.cells) (hw : bd.wide = bd'.wide) : bd.high = bd'.high := by
  have h1 : bd.high * bd.wide = bd'.high * bd'.wide := hc
  rw [hw] at h1
  have := (Bd.pos ok).2
  rw [hw] at this
  exact Nat.eq_of_mul_eq_mul_right this h1
theorem words_same {bd bd' : Bd} {ths : List (Str × Nat)} (ok : bd.Ok 36) (ok' : bd'.Ok 36) (hl : ths.length = bd.cells) (hc : bd.cells = bd'.cells) (hw : bd.wide = bd'.wide) : wordsFrom bd' 0 ths = wordsFrom bd 0 ths := by
  rw [words_is ok hl, words_is ok' (hl.trans hc), hw, wide_high ok hc hw]
theorem ne_of_cells {bd : Bd} {ths : List (Str × Nat)} (ok : bd.Ok 36) (hl : ths.length = bd.cells) : ths ≠ [] := fun e => by
  rw [e] at hl
  have : 0 = bd.cells := hl
  have := (Bd.cells_le ok).1
  omega
/-- a text of a standing, read for a board of as many cells -/
theorem read_wide {bd bd' : Bd} {ths : List (Str × Nat)} (ok : bd.Ok 36) (ok' : bd'.Ok 36) (hl : ths.length = bd.cells) (hc : bd.cells = bd'.cells) (hok : ∀ th ∈ ths, ThOk th) :
    (badAt bd' (textOf bd ths) = none ↔ bd'.wide = bd.wide) ∧ thingsIn (Txt.split (textOf bd ths) blank) = ths := by
  have hs : Txt.split (textOf bd ths) blank = wordsFrom bd 0 ths := text_split (ne_of_cells ok hl) hok
  obtain ⟨d1, d2, d3⟩ := words_due ok hl hok
  refine ⟨⟨fun h => ?_, fun h => ?_⟩, by rw [hs]; exact d3⟩
  · unfold badAt at h
    rw [hs] at h
    have e := (firstBad_none h (Nat.zero_le _)).2
    unfold dueMany at e
    have p := Bd.pos ok'
    have p1 : 1 ≤ bd'.high * (bd'.wide + 1) := Nat.mul_pos p.1 (Nat.succ_pos _)
    exact (size_eq (Bd.pos ok').1 hc.symm (show bd'.high * (bd'.wide + 1) = bd.high * (bd.wide + 1) by omega)).2
  · unfold badAt
    rw [hs, ← words_same ok ok' hl hc h.symm]
    obtain ⟨f1, f2, f3⟩ := words_due ok' (hl.trans hc) hok
    have e : (wordsFrom bd' 0 ths).length = dueMany bd' := by unfold dueMany; omega
    have g : Good bd' (wordsFrom bd' 0 ths) (wordsFrom bd' 0 ths).length := ⟨Nat.le_refl _, by omega, fun j z hj hz => by
      rw [f1 j z hz, decide_eq_false (by omega)]
      rfl⟩
    exact g.whole e
theorem shown_wide {bd bd' : Bd} {ths : List (Str × Nat)} (ok : bd.Ok 36) (ok' : bd'.Ok 36) (hl : ths.length = bd.cells) (hc : bd.cells = bd'.cells) (hok : ∀ th ∈ ths, ThOk th) :
    textOf bd' ths = textOf bd ths ↔ bd'.wide = bd.wide := by
  constructor
  · intro h
    have h1 := text_split (bd := bd) (ne_of_cells ok hl) hok
    have h2 := text_split (bd := bd') (ne_of_cells ok hl) hok
    rw [h] at h2
    have e := h2.symm.trans h1
    have d := (words_due ok hl hok).2.1
    have d' := (words_due ok' (hl.trans hc) hok).2.1
    rw [e] at d'
    exact (size_eq (Bd.pos ok').1 hc.symm (show bd'.high * (bd'.wide + 1) = bd.high * (bd.wide + 1) by omega)).2
  · intro h
    unfold textOf
    rw [words_same ok ok' hl hc h.symm]
theorem shown_inj {bd : Bd} {a b : List (Str × Nat)} (ok : bd.Ok 36) (ha : a.length = bd.cells) (hb : b.length = bd.cells) (oka : ∀ th ∈ a, ThOk th) (okb : ∀ th ∈ b, ThOk th) : textOf bd a = textOf bd b ↔ a = b := by
  constructor
  · intro h
    have h1 := (read_wide ok ok ha rfl oka).2
    have h2 := (read_wide ok ok hb rfl okb).2
    rw [h] at h1
    exact h1.symm.trans h2
  · intro h; rw [h]
/-! ### standings compared -/
theorem eqv_dth (x y : Str × Nat) : PyData.eqv (dth x) (dth y) = decide (x = y) := by
  obtain ⟨a, i⟩ := x
  obtain ⟨b, j⟩ := y
  show ((a == b) && (((i : Int) == (j : Int)) && true)) = _
  rw [Bool.and_true]
  by_cases h1 : a = b
  · subst h1
    by_cases h2 : i = j
    · subst h2
      simp
    · have h3 : ((i : Int) == (j : Int)) = false := by
        rw [beq_eq_false_iff_ne]
        omega
      rw [h3, Bool.and_false, decide_eq_false fun z => h2 (Prod.mk.inj z).2]
  · have h3 : (a == b) = false := by rw [beq_eq_false_iff_ne]; exact h1
    rw [h3, Bool.false_and, decide_eq_false fun z => h1 (Prod.mk.inj z).1]
theorem eqv_stand : ∀ a b : List (Str × Nat), PyData.eqvAll (a.map dth) (b.map dth) = decide (a = b)
  | [], [] => rfl
  | [], _ :: _ => rfl
  | _ :: _, [] => rfl
  | x :: a, y :: b => by
    show (PyData.eqv (dth x) (dth y) && PyData.eqvAll (a.map dth) (b.map dth)) = _
    rw [eqv_dth, eqv_stand a b]
    by_cases h1 : x = y
    · subst h1
      by_cases h2 : a = b
      · subst h2; simp
      · rw [decide_eq_false h2, Bool.and_false, decide_eq_false fun z => h2 (List.cons.inj z).2]
    · rw [decide_eq_false h1, Bool.false_and, decide_eq_false fun z => h1 (List.cons.inj z).1]
theorem dth_can {th : Str × Nat} (h : ThOk th) : PyData.canLay0 (dth th) = true := by
  show (PyData.strOk th.1 && (true && true)) = true
  rw [Bool.and_true, Bool.and_true]
  unfold PyData.strOk
  rw [Array.all_eq_true']
  intro c hc
  have := (h.1.2.2 c (by simpa using hc)).2
  exact decide_eq_true (by omega)
theorem dStand_shaped {ths : List (Str × Nat)} (h : ∀ th ∈ ths, ThOk th) : SeqAt.shaped (dStand ths) = true := by
  unfold SeqAt.shaped
  rw [Bool.and_eq_true]
  refine ⟨?_, decide_eq_true ?_⟩
  · show PyData.canLayAll0 (ths.map dth) = true
    induction ths with
    | nil => rfl
    | cons t r ih =>
      show (PyData.canLay0 (dth t) && PyData.canLayAll0 (r.map dth)) = true
      rw [dth_can (h t List.mem_cons_self), ih fun x hx => h x (List.mem_cons_of_mem _ hx)]
      rfl
  · have := dAll_depth ths
    show PyData.depthAll (ths.map dth) + 1 ≤ 64
    omega
end Lot
namespace Lot
open PySem PySem.Spec PyProof.Rows L2
theorem cut_take (xs : List V) {n : Nat} (h : n ≤ xs.length) : cutV xs none (some (n : Int)) = xs.take n := by
  unfold cutV
  have e1 : HT.sIx xs.length xs.length (some (n : Int)) = min n xs.length := HT.sIx_nat _ _ _
  rw [e1, HT.sIx_none, List.drop_zero, Nat.sub_zero, Nat.min_eq_left h]
theorem cut_drop (xs : List V) {n : Nat} (h : n ≤ xs.length) : cutV xs (some (n : Int)) none = xs.drop n := by
  unfold cutV
  have e1 : HT.sIx xs.length 0 (some (n : Int)) = min n xs.length := HT.sIx_nat _ _ _
  rw [e1, HT.sIx_none, Nat.min_eq_left h]
  exact List.take_of_length_le (by rw [List.length_drop]; exact Nat.le_refl _)
theorem catA_any {K : PySem.W.Frag} {H : Hp} {a b : Addr} {xs ys : List V} {Q : VK} (ha : H a = some (.tup xs)) (hb : H b = some (.tup ys)) (hz : xs.length + ys.length ≤ sizeLine) (q : ∀ o H', Same H H' → H' o = some (.tup (xs ++ ys)) → Q (.ref o) H') :
    rCatA K (.ref a) (.ref b) H Q := by
  refine ⟨a, b, xs, ys, rfl, rfl, .inl (.inl ha), .inl (.inl hb), hz, fun e => ?_, fun _ e => ?_, fun _ _ p np => q p _ (same_upd np) upd_same⟩
  · subst e
    exact q b H (Same.refl H) hb
  · subst e
    exact q a H (Same.refl H) (by rw [List.append_nil]; exact ha)
theorem Things.app {H : Hp} : ∀ {as : List Addr} {ts : List (Str × Nat)} {bs : List Addr} {us : List (Str × Nat)}, Things H as ts → Things H bs us → Things H (as ++ bs) (ts ++ us)
  | [], [], _, _, _, g => g
  | _ :: _, _ :: _, _, _, h, g => ⟨h.1, Things.app h.2 g⟩
  | [], _ :: _, _, _, h, _ => h.elim
  | _ :: _, [], _, _, h, _ => h.elim
theorem Things.take {H : Hp} : ∀ {as : List Addr} {ts : List (Str × Nat)} (n : Nat), Things H as ts → Things H (as.take n) (ts.take n)
  | _, _, 0, _ => trivial
  | [], [], n + 1, _ => trivial
  | _ :: _, _ :: _, n + 1, h => ⟨h.1, Things.take n h.2⟩
  | [], _ :: _, _ + 1, h => h.elim
  | _ :: _, [], _ + 1, h => h.elim
theorem Things.drop {H : Hp} : ∀ {as : List Addr} {ts : List (Str × Nat)} (n : Nat), Things H as ts → Things H (as.drop n) (ts.drop n)
  | _, _, 0, h => h
  | [], [], n + 1, _ => trivial
  | _ :: _, _ :: _, n + 1, h => Things.drop n h.2
  | [], _ :: _, _ + 1, h => h.elim
  | _ :: _, [], _ + 1, h => h.elim
theorem Bd.last (bd : Bd) : atI bd.vals (-1) = some (.int bd.wide) := by
  cases bd with
  | row n => rfl
  | ring n => rfl
  | floor h w => rfl
theorem bl_eq {a b : Bool} (h : a = b) : V.bl a = V.bl b := by rw [h]
theorem dec_str (a b : Str) : decide (V.str a = V.str b) = decide (a = b) := by
  by_cases h : a = b
  · rw [h]; simp
  · rw [decide_eq_false h, decide_eq_false fun z => h (V.str.inj z)]
theorem dec_nat (a b : Nat) : decide (V.int (a : Int) = V.int (b : Int)) = decide (a = b) := by
  by_cases h : a = b
  · rw [h]; simp
  · rw [decide_eq_false h, decide_eq_false fun z => h (by have := V.int.inj z; omega)]
end Lot

/-! An own exception that a clause takes and keeps under a further name: a thing of the heap from then on. -/
namespace Lot
open PySem PySem.Spec PyProof.Rows L2
/-- a caught exception of the class cls, its dict at d, at a -/
def ExK (cls : Value) (d : Option Addr) (a : Addr) : HO := .ext fun h => ∃ (oe : Obj) (vs : Array Value), h.get? a = some oe ∧ Zc cls d oe ∧ oe.data = .fields vs
theorem exK_ok {P : Program} {w : World} {H : Hp} {h : Heap} {a : Addr} {cls : Value} {d : Option Addr} {oe : Obj} {vs : Array Value} (e : h.get? a = some oe) (z : Zc cls d oe) (dd : oe.data = .fields vs) : ObjOk P w H h a (ExK cls d a) :=
  ⟨⟨oe, vs, e, z, dd⟩, ⟨oe, e⟩, fun _ _ ⟨o, v, q, r⟩ k => ⟨o, v, k o q, r⟩⟩
section
variable {X : Cx} {pins : List (Addr × Obj)} {σ : L2.St} {H : Hp} {sI s s' : Shared} {B : Heap}
theorem landedN (I : Inv X pins σ H sI) (J : Inv X pins σ H s') (hx : X.ex = []) {a : Addr} {o : HO} (hn : sI.heap.get? a = none) (na : H a = none) (new : ObjOk X.prog X.w (upd H a o) s'.heap a o) : Inv X pins σ (upd H a o) s' := by
  have ne0 : ∀ b u, sI.heap.get? b = some u → b ≠ a := fun b u e z => by rw [z, hn] at e; cases e
  have nex : ∀ b, b ∉ X.ex := fun b hb => by rw [hx] at hb; cases hb
  have neB : ∀ b u, X.s_0.heap.get? b = some u → b ≠ a := fun b u e => by
    obtain ⟨u', e'⟩ := I.base.there b u e (nex b)
    exact ne0 b u' e'
  have neL : X.env.locals ≠ a := by
    obtain ⟨m, ⟨ob, _, _, ho, _⟩, _⟩ := I.loc
    exact ne0 _ _ ho
  refine ⟨J.ok, J.os, J.bare, ⟨J.base.keep, J.base.slot, fun b u e n hq => ?_, J.base.there, fun b xs e => ?_, fun b u v e => ?_, fun b ps e => ?_⟩, J.loc, J.cell, ?_, fun x c e => ?_, fun p hp => ?_, J.hok.laidN (fun _ _ q => q) na new, J.len⟩
  · rw [upd_ne (neB b u e)]; exact J.base.free b u e n hq
  · have q := J.base.tups b xs e
    rw [upd_ne (ne_of_none q na)]; exact q
  · have q := J.base.frzs b u v e
    rw [upd_ne (ne_of_none q na)]; exact q
  · obtain ⟨m, q⟩ := J.base.tbls b ps e
    exact ⟨m, by rw [upd_ne (ne_of_none q na)]; exact q⟩
  · rw [upd_ne neL]; exact J.free
  · obtain ⟨v, ob, ho, _⟩ := I.cell x c e
    rw [upd_ne (ne0 _ _ ho)]; exact J.freeC x c e
  · obtain ⟨e, n, r⟩ := J.pin p hp
    have z := ne0 _ _ (I.pin p hp).1
    exact ⟨e, by rw [upd_ne z]; exact n, r⟩
theorem inSuite (I : Inv X pins σ H s) (a : Addr) : Inv (X.suite a (X.pn ++ pins)) [] σ H s :=
  ⟨I.ok.suite _ _, I.os, I.bare, I.base, I.loc, I.cell, I.free, I.freeC, fun p hp => I.pin p (by rw [List.append_nil] at hp; exact hp), I.hok, I.len⟩
theorem offSuite {a : Addr} {pn' : List (Addr × Obj)} (I : Inv (X.suite a (X.pn ++ pins)) pn' σ H s) (ok : X.Ok) : Inv X pins σ H s :=
  ⟨ok, I.os, I.bare, I.base, I.loc, I.cell, I.free, I.freeC, fun p hp => I.pin p (List.mem_append_left _ hp), I.hok, I.len⟩
end
/-- the wish of a clause that takes every exception of the body and keeps it: slot i is the clause's name -/
def wHeld (K : PySem.W.Frag) (c : Value) (i : Nat) (ts : Addr → TS) (D : Ends) : WX := fun cls d σ H =>
  PySem.W.exmOne K cls c = some true ∧ ∀ a, H a = none → ts a { nx := fun σ' H' => D.nx (σ'.set i none) H', rt := D.rt, bk := fun σ' H' => D.bk (σ'.set i none) H', ct := fun σ' H' => D.ct (σ'.set i none) H' } (σ.set i (some (.ref a))) (upd H a (ExK cls d a))
section
variable {X : Cx} {x n : Str} {c : Value} {i : Nat} {body suite : List Stmt} {b₀ : Stmt} {np pos pos' : Pos} {tb : WX → TS} {ts : Addr → TS}
theorem ps_try_held (hx : X.ex = []) (hs : X.stack = X.env :: X.outer) (hf : X.env.frame = some X.env.locals) (hN : X.N.Nodup) (hi : X.N[i]? = some n) (hln : X.env.kindOf n = some .local) (hc : Names X x c)
    (hb : ∀ (W : WX) (pn : List (Addr × Obj)) (xe : Value → Shared → Prop), Takes (X.tr pn xe) W → PassesOwn (model X.prog X.w) X.A X.env xe → PSs (X.tr pn xe) body (tb W))
    (hsu : ∀ (a : Addr) (pn : List (Addr × Obj)), PSs (X.suite a pn) (b₀ :: suite) (ts a)) :
    PS X (.Try body [.ExceptHandler (some (.Name x np)) (some n) (b₀ :: suite) pos'] [] [] pos) (fun D σ H => tb (wHeld X.K c i ts D) D σ H) := by
  refine ⟨fun pins s σ H D I h => ?_⟩
  have ok := I.ok
  have hfr : X.A.frames = some (X.env :: X.outer) := ok.frames.trans (by rw [hs])
  refine wpAny_Try_except ?_
  refine wpAny_mono ((hb (wHeld X.K c i ts D) (X.pn ++ pins) (fun e s₁ => wpAny (model X.prog X.w) X.A (noteFrame e X.env) (fun _ s₂ => wpAny (model X.prog X.w) X.A (setFlight e none) (fun _ s₃ =>
    wpAny (model X.prog X.w) X.A (handleBy e X.env [.ExceptHandler (some (.Name x np)) (some n) (b₀ :: suite) pos']) (SP X pins D) X.xe s₃) X.xe s₂) X.xe s₁) (fun u s' xx => ?_) PassesOwn.looking).run [] s σ H D (I.toTry _) h) (fun f s1 hsp => ?_) fun _ _ he => he
  · obtain ⟨a, B, sI, pins', σ', H', cls, d, rfl, J', nb, up, sky, na, os, ag, hb1, hyes⟩ := xx
    have J : Inv X pins σ' H' sI := J'.ofTry ok
    have sky' : Sky B (X.env :: X.outer) a (Zc cls d) X.env.locals s'.heap := hs ▸ sky
    show wpAny (model X.prog X.w) X.A (noteFrame (.ref a) X.env) _ _ _
    refine Sky.land Zc.steady hfr hf sky' fun h3 fl3 up3 => ?_
    have J3 := inSuite (J.landed (s' := { s' with heap := h3 }) nb fl3.1 (up.trans up3) os ag) a
    obtain ⟨oe3, vs3, he3, hz3, hd3⟩ := fl3.there
    have nfr : a ∉ frs X.stack := fun hm => by
      rw [hs] at hm
      obtain ⟨_, o', e', hnf⟩ := fl3.2.2.1.mem hm
      rw [he3] at e'; cases e'
      exact hnf _ hd3
    have hn : sI.heap.get? a = none := by
      cases e : sI.heap.get? a with
      | none => rfl
      | some o =>
        have z := nb a o e nfr
        rw [fl3.2.1] at z; cases z
    refine wpAny_handleBy_cons (codeAny_handlers_test ?_) (by intro q; cases q)
    have LT : PySem.W.Looks (model X.prog X.w) h3 (typeOf (.ref a)) cls := fun A Q E s k q => wpAny_typeOf_ref (k _ _ he3) (by rw [hz3.1]; exact q)
    have LM := PySem.W.exm_one (M := model X.prog X.w) J3.kIn LT hb1
    have test : ∀ {Q E : Value → Shared → Prop}, Q c { s' with heap := h3 } → wpAny (model X.prog X.w) (X.A.mark (some (.ref a))) (eval (.Name x np) X.env) Q E { s' with heap := h3 } := fun {Q E} q => by
      obtain ⟨hg, hdbg, hm | ⟨hm, hv, hnn⟩⟩ := hc
      · exact ld_glob (X := X.suite a (X.pn ++ pins)) J3 hg hm q hdbg
      · exact ld_blt (X := X.suite a (X.pn ++ pins)) J3 hg hm hv q hnn hdbg
    refine test (LM.here (codeAny_handlers_suite_as ?_))
    refine HandSPX.lands_againZ fl3 fun h4 fl4 up4 => ?_
    have J4 : Inv X pins σ' H' { s' with heap := h4 } := J.landed nb fl4.1 ((up.trans up3).trans up4) os ag
    obtain ⟨oe4, vs4, he4, hz4, hd4⟩ := fl4.there
    have S4 := inSuite (landedN J J4 hx hn na (exK_ok he4 hz4 hd4)) a
    refine store_ok (X := X.suite a (X.pn ++ pins)) (v := .ref a) S4 hN hi (.inl hln) rfl (fun s5 S5 => ?_) (.inr hln)
    refine wpAny_mono ((hsu a (X.pn ++ pins)).run [] s5 _ _ _ S5 (hyes a na)) (fun f s6 hsp => ?_) fun _ _ z => z.elim
    have gone : ∀ {σ6 : L2.St} {H6 : Hp} {Q : Shared → Prop}, Inv (X.suite a (X.pn ++ pins)) [] σ6 H6 s6 → (∀ s7, Inv X pins (σ6.set i none) H6 s7 → Q s7) →
        wpAny (model X.prog X.w) X.A (do bindName X.env n .none; unbindBehindTheSuite X.env n pos') (fun _ s7 => Q s7) X.xe s6 := fun {σ6 H6 Q} S6 hq => gone_ok (offSuite S6 ok) hN hi hln hq
    cases f with
    | next =>
      obtain ⟨σ6, H6, S6, q6⟩ := hsp
      exact gone S6 fun s7 J7 => ⟨_, _, J7, q6⟩
    | brk =>
      obtain ⟨σ6, H6, S6, q6⟩ := hsp
      exact gone S6 fun s7 J7 => ⟨_, _, J7, q6⟩
    | cont =>
      obtain ⟨σ6, H6, S6, q6⟩ := hsp
      exact gone S6 fun s7 J7 => ⟨_, _, J7, q6⟩
    | ret u =>
      obtain ⟨v6, σ6, H6, S6, r6, q6⟩ := hsp
      exact gone S6 fun s7 J7 => ⟨_, _, _, J7, r6, q6⟩
  · cases f with
    | next =>
      obtain ⟨σ', H', J', q⟩ := hsp
      exact wpAny_execs_nil ⟨σ', H', J'.ofTry ok, q⟩
    | brk =>
      obtain ⟨σ', H', J', q⟩ := hsp
      exact ⟨σ', H', J'.ofTry ok, q⟩
    | cont =>
      obtain ⟨σ', H', J', q⟩ := hsp
      exact ⟨σ', H', J'.ofTry ok, q⟩
    | ret u =>
      obtain ⟨v, σ', H', J', r, q⟩ := hsp
      exact ⟨v, σ', H', J'.ofTry ok, r, q⟩
end
section
variable {X : Cx} {st : Stmt} {qual fld : Str} {msg : Expr} {C fI cc cda : Addr}
/-- a kept one stands as an instance -/
theorem held_at {pins : List (Addr × Obj)} {σ : L2.St} {H : Hp} {s : Shared} (I : Inv X pins σ H s) {a d : Addr} {fs : List (Str × V)} (ea : H a = some (ExK (.ref C) (some d) a)) (ed : H d = some (.xd fs)) :
    ∃ (oe : Obj) (od : Obj) (mA : Str → Option Value), PySem.W.InstAt s.heap a oe C (some od) ∧ (∀ f, PySem.W.lookIn f od = some (mA f)) ∧ ∀ f, RelO (fs.lookup f) (mA f) := by
  obtain ⟨⟨oe, vs, ha, hz, hd⟩, _⟩ := I.hok a _ ea
  have hx : ObjOk X.prog X.w H s.heap d (.xd fs) := I.hok d _ ed
  obtain ⟨mA, hns, hr⟩ := hx
  obtain ⟨od, ho, hl⟩ := lookIn_ns hns
  exact ⟨oe, od, mA, ⟨ha, hz.1, by unfold PySem.W.notCls; rw [hd] <;> rfl, by rw [hz.2]; exact ho⟩, hl, hr⟩
/-- e.fld, e a kept one -/
def tHeldFld (C : Addr) (fld : Str) (te : TE) : TE := fun σ H Q => te σ H fun x H1 => ∃ (a d : Addr) (v : V), x = .ref a ∧ H1 a = some (ExK (.ref C) (some d) a) ∧ H1 d = some (.xd [(fld, v)]) ∧ Q v H1
theorem pe_heldFld {e : Expr} {te : TE} {pos : Pos} (T : SupTxt X.prog X.K st qual fld msg C fI cc cda) (he : PE X e te)
    (hb : attributeBase e fld X.env (eval e X.env) = eval e X.env := by rfl) (hnd : (fld == ("__dict__" : Str)) = false := by decide) (hnc : (fld == ("__class__" : Str)) = false := by decide) :
    PE X (.Attribute e fld pos) (tHeldFld C fld te) := by
  refine ⟨fun pins s σ H Q I h => ?_⟩
  refine attr_of hb (thn (he.run pins s σ H _ I h) fun u s1 hh => ?_)
  obtain ⟨x, H1, I1, rx, a, d, v, ex, ea, ed, q⟩ := hh
  subst ex
  obtain rfl : u = Value.ref a := rx
  obtain ⟨oe, od, mA, J, hl, hr⟩ := held_at I1 ea ed
  have l : List.lookup fld [(fld, v)] = some v := by simp [List.lookup]
  obtain ⟨u, hu, ru⟩ := RelO.some_of (v := v) (o := mA fld) (by rw [← l]; exact hr fld)
  exact HandSPX.exc_get I1.kIn J T.ga T.gg T.exC (PySem.W.findObj_own T.hdC T.no rfl (by rw [hl, hu])) (handed_of ru) ⟨v, H1, I1.tok _, ru, q⟩
/-- what isinstance looks at in the class of a kept one -/
structure IsTxt (K : PySem.W.Frag) (C : Addr) : Prop where
  cl : PySem.W.isClsIn K C = true
  ga : PySem.W.findIn K (.ref C) "__getattribute__" = some (some (.builtin "BaseException.__getattribute__"))
  gg : PySem.W.findIn K (.ref C) "__getattr__" = some none
  ex : PySem.W.subIn K (.ref C) (.type "BaseException") = some true
  ca : PySem.W.findIn K (.ref C) "__class__" = some (some (.builtin "object.__class__"))
  cn : PySem.W.specialIn K (.builtin "object.__class__") "__get__" = some (some (.builtin "getset_descriptor.__get__"))
  ct : PySem.W.takesIn K (.builtin "object.__class__") = some true
  mo : PySem.W.mroIn K C (.type "object") = some true
/-- isinstance(e, c), e a kept one, c a class or a tuple of classes just laid -/
def rIsK (K : PySem.W.Frag) (C : Addr) : List V → Hp → VK → Prop := fun xs H Q => ∃ (a d : Addr) (fs : List (Str × V)) (c : V) (u : Value) (b : Bool), xs = [.ref a, c] ∧ H a = some (ExK (.ref C) (some d) a) ∧ H d = some (.xd fs) ∧ ClsV c u ∧ PySem.W.kitOne K (.ref C) u = some b ∧ Q (.bl b) H
def rIsKT (K : PySem.W.Frag) (C : Addr) : List V → Hp → VK → Prop := fun xs H Q => ∃ (a d tp : Addr) (fs : List (Str × V)) (cs : List V) (us : List Value) (b : Bool), xs = [.ref a, .ref tp] ∧ H a = some (ExK (.ref C) (some d) a) ∧ H d = some (.xd fs) ∧ H tp = some (.tup cs) ∧ Paired ClsV cs us ∧ PySem.W.kitAny K (.ref C) us = some b ∧ Q (.bl b) H
theorem call_isK (T : IsTxt X.K C) : CallR X (.builtin "isinstance") (rIsK X.K C) := by
  intro pins s σ H xs us Q I r h
  obtain ⟨a, d, fs, c, u, b, rfl, ea, ed, k, e, q⟩ := h
  obtain ⟨u1, u2, rfl, r1, r2⟩ := vals2 r
  cases (show u1 = Value.ref a from r1)
  have e2 := k.eq r2
  subst e2
  obtain ⟨oe, od, mA, J, _, _⟩ := held_at I ea ed
  exact PySem.W.kia_one (PySem.W.kitx_exc T.cl T.ga T.gg T.ex T.ca T.cn T.ct T.mo) I.kIn J e (fun z => nomatch z) fun tk => ⟨.bl b, H, I.tok tk, rfl, q⟩
theorem call_isKT (T : IsTxt X.K C) : CallR X (.builtin "isinstance") (rIsKT X.K C) := by
  intro pins s σ H xs us Q I r h
  obtain ⟨a, d, tp, fs, cs, ws, b, rfl, ea, ed, hT, k, e, q⟩ := h
  obtain ⟨u1, u2, rfl, r1, r2⟩ := vals2 r
  cases (show u1 = Value.ref a from r1)
  cases (show u2 = Value.ref tp from r2)
  obtain ⟨oe, od, mA, J, _, _⟩ := held_at I ea ed
  obtain ⟨_, its, rv, o, h1, h2, n, h3⟩ := (show ObjOk X.prog X.w H s.heap tp (.tup cs) from I.hok tp _ hT)
  have e3 := ClsV.all k rv
  subst e3
  obtain ⟨oc, odd, dt, sl⟩ := o
  simp only at h2 h3
  subst h2 h3
  exact PySem.W.kia_tup (PySem.W.kitx_exc T.cl T.ga T.gg T.ex T.ca T.cn T.ct T.mo) I.kIn J h1 e (fun z => nomatch z) fun tk => ⟨.bl b, H, I.tok tk, rfl, q⟩
/-- a class of one's own against a class of one's own -/
theorem kit_own {K : PySem.W.Frag} {D : Addr} {b : Bool} (hc : PySem.W.isClsIn K D = true) (ht : PySem.W.typeIn K (.ref D) = some (.type "type")) (hs : PySem.W.subIn K (.ref C) (.ref D) = some b) (hne : C = D → b = true) : PySem.W.kitOne K (.ref C) (.ref D) = some b := by
  unfold PySem.W.kitOne
  by_cases h : (Value.ref C == Value.ref D) = true
  · rw [if_pos h, hne (Value.ref.inj (beq_iff_eq.mp h))]
  · rw [if_neg h]
    have hc' : (PySem.W.clsIn K D).isSome = true := hc
    show (if ((PySem.W.clsIn K D).isSome && PySem.W.typeIn K (.ref D) == some (.type "type")) = true then PySem.W.subIn K (.ref C) (.ref D) else none) = some b
    rw [hc', ht, if_pos (by rfl), hs]
theorem exm_own {K : PySem.W.Frag} {D : Addr} {b : Bool} (h1 : PySem.W.subIn K (.ref D) (.type "BaseException") = some true) (h2 : PySem.W.isClsIn K D = true) (h3 : PySem.W.typeIn K (.ref D) = some (.type "type")) (h4 : PySem.W.subIn K (.ref C) (.ref D) = some b) :
    PySem.W.exmOne K (.ref C) (.ref D) = some b := by
  have h2' : (PySem.W.clsIn K D).isSome = true := h2
  show (if (PySem.W.subIn K (.ref D) (.type "BaseException") == some true) = true then (if ((PySem.W.clsIn K D).isSome && PySem.W.typeIn K (.ref D) == some (.type "type")) = true then PySem.W.subIn K (.ref C) (.ref D) else none) else none) = some b
  rw [h1, h2', h3, if_pos (by rfl), if_pos (by rfl), h4]
end
end Lot
namespace Lot
open PySem PySem.Spec PyProof.Rows L2
/-- a def that says what it does where nothing is being shown, ready to be called there -/
structure GOk (P : Program) (w : World) (K : PySem.W.Frag) (mg : Str → Option Value) (base : Heap) (k : Nat) (f : Addr) (fd : FuncData) (ps : List Str) (sp : Sp) : Prop where
  len : ∀ vs H Q E, sp vs H Q E → vs.length = ps.length
  run : GRun P w K mg base CX0 k f fd ps sp
structure DefG (P : Program) (w : World) (K : PySem.W.Frag) (mg : Str → Option Value) (base : Heap) (k : Nat) (x : Str) (ps : List Str) (sp : Sp) (f : Addr) (fd : FuncData) : Prop where
  ok : GOk P w K mg base k f fd ps sp
  g : mg x = some (.ref f)
  kp : PySem.W.keepIn K (.ref f) = true
  b : Binds K fd ps []
section
variable {X : Cx} {k : Nat} {f : Addr} {fd : FuncData} {ps : List Str} {sp : Sp} {dvs : List V} {ds : List Value} {E : XK} {x : Str} {p pos : Pos} {e : Expr} {es : List Expr} {t : TA}
theorem pe_callG (hG : X.A.guards = some []) (F : GOk X.prog X.w X.K X.mg X.base k f fd ps sp) (hr : Room k X.A) (hg : Gl X x) (hm : X.mg x = some (.ref f)) (hk : PySem.W.keepIn X.K (.ref f) = true) (hb : Binds X.K fd ps ds) (hd : Vals dvs ds) (hx : Passes CX0 X E)
    (ha : PA X (e :: es) t) (hdb : (x == ("__debug__" : Str)) = false := by decide) (he : starEach (e :: es) X.env = (false, eval e X.env) :: starEach es X.env := by rfl) (hpl : (backTo pos (starEach es X.env)).any (·.1) = false := by rfl) :
    PE X (.Call (.Name x p) (e :: es) [] pos) (tCall sp dvs E t) := by
  refine ⟨fun pins s σ H Q I h => ?_⟩
  refine wpAny_Call_Name_kw (ld_glob I hg hm ?_ hdb)
  refine PySem.W.callWith_K (h₀ := X.base) I.ok.mod.kin hk (thn (ha.run pos pins s σ H _ I h) fun us s1 ⟨vs, H1, I1, r, q⟩ => ⟨I1.kIn, ?_⟩) he hpl
  have r2 : Vals (vs ++ dvs) (us ++ ds) := r.append hd
  have hl : (us ++ ds).length = ps.length := by rw [← r2.length]; exact F.len _ _ _ _ q
  refine wpAny_call (codeAny_mono (F.run X.A X.stack s1 H1 ⟨us, []⟩ (us ++ ds) (vs ++ dvs) Q E hG hr I1.env0 (hb s1 us I1.kIn hl) r2 q) fun r s' hq => ?_)
  match r, hq with
  | .error e, hq => exact hx pins σ H1 s1 e s' I1 hq
  | .ok (.ret u), hq => exact I1.after hq
  | .ok .next, hq => exact hq.elim
  | .ok .brk, hq => exact hq.elim
  | .ok .cont, hq => exact hq.elim
end
/-- another class of the program, none of C's bases -/
structure Other (K : PySem.W.Frag) (mg : Str → Option Value) (C : Addr) (x : Str) (D : Addr) : Prop where
  g : mg x = some (.ref D)
  k : PySem.W.kitOne K (.ref C) (.ref D) = some false
theorem kit_other {K : PySem.W.Frag} {C D : Addr} (hself : PySem.W.subIn K (.ref C) (.ref C) = some true) (hc : PySem.W.isClsIn K D = true) (ht : PySem.W.typeIn K (.ref D) = some (.type "type")) (hs : PySem.W.subIn K (.ref C) (.ref D) = some false) : PySem.W.kitOne K (.ref C) (.ref D) = some false :=
  kit_own hc ht hs fun h => by subst h; rw [hself] at hs; cases hs
theorem kit_self {K : PySem.W.Frag} {C : Addr} : PySem.W.kitOne K (.ref C) (.ref C) = some true := by
  unfold PySem.W.kitOne
  exact if_pos (beq_iff_eq.mpr rfl)
theorem kit_VE {K : PySem.W.Frag} {C : Addr} (h : PySem.W.subIn K (.ref C) (.type "ValueError") = some true) : PySem.W.kitOne K (.ref C) (.type "ValueError") = some true := by
  unfold PySem.W.kitOne
  rw [if_neg (fun z => by cases (beq_iff_eq.mp z : Value.ref C = Value.type "ValueError"))]
  show (if PySem.W.kitMeta "ValueError" = true then PySem.W.subIn K (.ref C) (.type "ValueError") else none) = some true
  rw [if_pos (by decide +kernel)]
  exact h
theorem kitAny_off {K : PySem.W.Frag} {t : Value} : ∀ {us : List Value}, (∀ u ∈ us, PySem.W.kitOne K t u = some false) → PySem.W.kitAny K t us = some false
  | [], _ => rfl
  | u :: r, h => kitAny_cons (h u List.mem_cons_self) (fun _ => kitAny_off fun v hv => h v (List.mem_cons_of_mem _ hv)) (fun z => by cases z)
theorem paired_own : ∀ ds : List Addr, Paired ClsV (ds.map V.ref) (ds.map Value.ref)
  | [] => .nil
  | d :: r => .cons (.own d) (paired_own r)
end Lot

/-! Own exceptions made as values: with a field of their own, or with one argument alone; what is asked of them. -/
namespace Lot
open PySem PySem.Spec PyProof.Rows L2
/-- an exception of the class at C with no dict, its arguments at t -/
def ExT (C t a : Addr) : HO := .ext fun h => ∃ (oe : Obj) (vs : Array Value), h.get? a = some oe ∧ Zc (.ref C) none oe ∧ oe.data = .fields vs ∧ vs[0]? = some (.ref t)
theorem exT_ok {P : Program} {w : World} {H : Hp} {h : Heap} {C t a : Addr} {oe : Obj} {vs : Array Value} (e : h.get? a = some oe) (z : Zc (.ref C) none oe) (dd : oe.data = .fields vs) (h0 : vs[0]? = some (.ref t)) : ObjOk P w H h a (ExT C t a) :=
  ⟨⟨oe, vs, e, z, dd, h0⟩, ⟨oe, e⟩, fun _ _ ⟨o, v, q, r⟩ k => ⟨o, v, k o q, r⟩⟩
/-- what is tracked is there -/
theorem objOk_there {P : Program} {w : World} {H : Hp} {h : Heap} {a : Addr} {o : HO} (x : ObjOk P w H h a o) : ∃ u, h.get? a = some u := by
  cases o with
  | lst xs => obtain ⟨_, _, _, _, e⟩ := x; exact ⟨_, e⟩
  | tup xs => obtain ⟨_, _, _, u, e, _⟩ := x; exact ⟨_, e⟩
  | dK kvs => obtain ⟨_, _, _, _, o, _, _, e, _⟩ := x; exact ⟨_, e⟩
  | dT kvs => obtain ⟨_, _, _, _, o, _, _, e, _⟩ := x; exact ⟨_, e⟩
  | set S n => obtain ⟨o, _, _, _, e, _⟩ := x; exact ⟨_, e⟩
  | ins C dx fs => obtain ⟨_, _, _, e, _⟩ := x; exact ⟨_, e⟩
  | own y => exact x
  | xd fs => obtain ⟨_, ⟨_, _, _, e, _⟩, _⟩ := x; exact ⟨_, e⟩
  | rng lo hi => obtain ⟨_, _, _, e⟩ := x; exact ⟨_, e⟩
  | frz ob u => exact ⟨_, x.1⟩
  | tbl ps => exact ⟨_, x⟩
  | met f y => exact ⟨_, x⟩
  | ext φ => exact x.2.1
section
variable {X : Cx} {st : Stmt} {cn qual fld : Str} {msg : Expr} {C fI cc cda : Addr} {okV : V → Prop} {ok : Value → Prop}
/-- C(e), a class with its own __init__, as a value -/
theorem pe_sup {a : Expr} {ta : TA} {p pos : Pos} {k : Nat} (T : SupTxt X.prog X.K st qual fld msg C fI cc cda) (Tx : SupText st fld msg) (M : MsgOk X.prog X.w msg fld ok) (hok : ∀ v u, RelV v u → okV v → ok u) (gC : X.mg cn = some (.ref C)) (hr : Room k X.A) (ha : PA X [a] ta)
    (hg : Gl X cn := by rfl) (hdb : (cn == ("__debug__" : Str)) = false := by decide)
    (he : starEach (a :: []) X.env = (false, eval a X.env) :: starEach [] X.env := by rfl) (hpl : (backTo pos (starEach [] X.env)).any (·.1) = false := by rfl) :
    PE X (.Call (.Name cn p) [a] [] pos) (fun σ H Q => ta σ H fun vs H1 => ∃ v, vs = [v] ∧ okV v ∧ ∀ d e, H1 d = none → H1 e = none → e ≠ d → Q (.ref e) (upd (upd H1 d (.xd [(fld, v)])) e (ExK (.ref C) (some d) e))) := by
  refine ⟨fun pins s σ H Q I h => ?_⟩
  refine wpAny_Call_Name_kw (ld_glob I hg gC ?_ hdb)
  refine PySem.W.callWith_K (h₀ := X.base) I.ok.mod.kin T.kC (thn (ha.run pos pins s σ H _ I h) fun us s1 hh => ?_) he hpl
  obtain ⟨vs, H1, I1, r1, v, ev, okv, q1⟩ := hh
  subst ev
  refine ⟨I1.kIn, ?_⟩
  obtain ⟨v', rfl, rv⟩ := vals1 r1
  have hlim := I1.nolimit
  obtain ⟨mb, b1, b2⟩ := I1.ok.mod.blt
  have gS := I1.ok.mod.glob.keeps I1.bk
  have bS := b1.keeps I1.bk
  obtain ⟨hp, g, dr, tk, os⟩ := s1
  refine wpAny_call (sup_made T Tx M I1.kIn gS bS b2 hlim (by have := hr.dp; omega) (hok v v' rv okv) fun h' tk' e d Md => ?_)
  obtain ⟨oe, fv, hoe, hc, hd, hdat, h1⟩ := Md.obj
  have hns := Md.ns
  obtain ⟨G', g1, g2⟩ := restrict h' fun b => decide (b ≠ e)
  have gk : ∀ b, b ≠ e → G'.get? b = h'.get? b := fun b hb => g1 b (decide_eq_true hb)
  have ge : G'.get? e = none := g2 e (by simp)
  have old : ∀ b o, hp.get? b = some o → G'.get? b = some o := fun b o q => (gk b (Nat.ne_of_lt (Nat.lt_of_lt_of_le (Heap.lt_size q) Md.new))).trans (Md.keep b o q)
  have up : ∀ b o, G'.get? b = some o → h'.get? b = some o := fun b o q => by
    by_cases hb : b = e
    · rw [hb, ge] at q; cases q
    · exact (gk b hb).symm.trans q
  have ob : ObjOk X.prog X.w (upd H1 d (.xd [(fld, v)])) G' d (.xd [(fld, v)]) := ⟨_, hns.at (fun o q => (gk d Md.dne).trans q), fun f => relO_one rv f⟩
  have J : Inv X pins σ (upd H1 d (.xd [(fld, v)])) ⟨G', g, dr, tk', os⟩ := I1.laid (t' := tk') old Md.dbig ob
  have hd1 := I1.hok.fresh Md.dbig
  have he1 := I1.hok.fresh Md.new
  have ne : (upd H1 d (.xd [(fld, v)])) e = none := by rw [upd_ne (Ne.symm Md.dne)]; exact he1
  exact ⟨.ref e, _, J.laidN (h' := h') (t' := tk') up ge ne (exK_ok hoe ⟨hc, hd⟩ hdat), rfl, q1 d e hd1 he1 (Ne.symm Md.dne)⟩
/-- C(e), a class without own __init__, as a value -/
theorem pe_exT {bmB : List Value} {B newId initId : String} {a : Expr} {ta : TA} {p pos : Pos} (F : ExcBaseFacts B newId initId bmB) (q : PySem.W.excIn X.K C bmB newId = true) (gC : X.mg cn = some (.ref C)) (kC : PySem.W.keepIn X.K (.ref C) = true) (ha : PA X [a] ta)
    (hg : Gl X cn := by rfl) (hdb : (cn == ("__debug__" : Str)) = false := by decide)
    (he : starEach (a :: []) X.env = (false, eval a X.env) :: starEach [] X.env := by rfl) (hpl : (backTo pos (starEach [] X.env)).any (·.1) = false := by rfl) :
    PE X (.Call (.Name cn p) [a] [] pos) (fun σ H Q => ta σ H fun vs H1 => ∃ v, vs = [v] ∧ ∀ t e, H1 t = none → H1 e = none → e ≠ t → Q (.ref e) (upd (upd H1 t (.tup [v])) e (ExT C t e))) := by
  refine ⟨fun pins s σ H Q I h => ?_⟩
  refine wpAny_Call_Name_kw (ld_glob I hg gC ?_ hdb)
  refine PySem.W.callWith_K (h₀ := X.base) I.ok.mod.kin kC (thn (ha.run pos pins s σ H _ I h) fun us s1 hh => ?_) he hpl
  obtain ⟨vs, H1, I1, r1, v, ev, q1⟩ := hh
  subst ev
  refine ⟨I1.kIn, ?_⟩
  obtain ⟨u, rfl, ru⟩ := vals1 r1
  obtain ⟨bm, N, nm, qn, bs, hdct, sn, sub, ab, col, dd, k0, k1, k2, k3, k5, mN, hC, hN, hni, T⟩ := exc_obj I1.kIn q
  obtain ⟨hp, g, dr, tk, os⟩ := s1
  refine wpAny_call_exc_subT F T hC hN hni (fun h' e hm => ?_) (by show 1 ≤ sizeLine; rw [sizeLine_eq]; omega)
  obtain ⟨t, ht, ht0, htt⟩ := hm.there
  have net : e ≠ t := fun z => by
    rw [z, htt] at ht
    cases ht
  obtain ⟨G', g1, g2⟩ := restrict h' fun b => decide (b ≠ e)
  have gk : ∀ b, b ≠ e → G'.get? b = h'.get? b := fun b hb => g1 b (decide_eq_true hb)
  have ge : G'.get? e = none := g2 e (by simp)
  have old : ∀ b o, hp.get? b = some o → G'.get? b = some o := fun b o q => (gk b fun z => by rw [z] at q; rw [hm.new] at q; cases q).trans (hm.keeps b o q)
  have up : ∀ b o, G'.get? b = some o → h'.get? b = some o := fun b o q => by
    by_cases hb : b = e
    · rw [hb, ge] at q; cases q
    · exact (gk b hb).symm.trans q
  have hn1 : ∀ b, hp.get? b = none → H1 b = none := fun b e0 => by
    cases e1 : H1 b with
    | none => rfl
    | some o =>
      obtain ⟨u, e2⟩ := objOk_there (I1.hok b o e1)
      have e2' : hp.get? b = some u := e2
      rw [e0] at e2'; cases e2'
  have ht1 := hn1 t ht0
  have he1 := hn1 e hm.new
  have ob : ObjOk X.prog X.w (upd H1 t (.tup [v])) G' t (.tup [v]) := ⟨by show 1 ≤ sizeLine; decide, [u], r1, _, (gk t (Ne.symm net)).trans htt, rfl, _, rfl⟩
  have J := I1.laidN (h' := G') (t' := tk) old ht0 ht1 ob
  have ne : (upd H1 t (.tup [v])) e = none := by rw [upd_ne net]; exact he1
  exact ⟨.ref e, _, J.laidN (h' := h') (t' := tk) up ge ne (exT_ok ht ⟨rfl, rfl⟩ rfl rfl), rfl, q1 t e ht1 he1 net⟩
/-- it is an exception of the class at C -/
def IsE (H : Hp) (a C : Addr) : Prop := (∃ (d : Addr) (fs : List (Str × V)), H a = some (ExK (.ref C) (some d) a) ∧ H d = some (.xd fs)) ∨ ∃ t, H a = some (ExT C t a)
theorem isE_at {pins : List (Addr × Obj)} {σ : L2.St} {H : Hp} {s : Shared} (I : Inv X pins σ H s) {a : Addr} (h : IsE H a C) : ∃ oe od, PySem.W.InstAt s.heap a oe C od := by
  rcases h with ⟨d, fs, ea, ed⟩ | ⟨t, ea⟩
  · obtain ⟨oe, od, _, J, _, _⟩ := held_at I ea ed
    exact ⟨oe, _, J⟩
  · obtain ⟨⟨oe, vs, ha, hz, hd, h0⟩, _⟩ := I.hok a _ ea
    exact ⟨oe, none, ha, hz.1, by unfold PySem.W.notCls; rw [hd] <;> rfl, by rw [hz.2]; exact True.intro⟩
/-- isinstance(e, c): the class of e is told by the heap -/
def rIsV (K : PySem.W.Frag) : List V → Hp → VK → Prop := fun xs H Q => ∃ (a C : Addr) (c : V) (u : Value) (b : Bool), xs = [.ref a, c] ∧ IsE H a C ∧ IsTxt K C ∧ ClsV c u ∧ PySem.W.kitOne K (.ref C) u = some b ∧ Q (.bl b) H
theorem call_isV : CallR X (.builtin "isinstance") (rIsV X.K) := by
  intro pins s σ H xs us Q I r h
  obtain ⟨a, C, c, u, b, rfl, ea, T, k, e, q⟩ := h
  obtain ⟨u1, u2, rfl, r1, r2⟩ := vals2 r
  cases (show u1 = Value.ref a from r1)
  have e2 := k.eq r2
  subst e2
  obtain ⟨oe, od, J⟩ := isE_at I ea
  exact PySem.W.kia_one (PySem.W.kitx_exc T.cl T.ga T.gg T.ex T.ca T.cn T.ct T.mo) I.kIn J e (fun z => nomatch z) fun tk => ⟨.bl b, H, I.tok tk, rfl, q⟩
/-- str(e), e of one text alone -/
def rStrE (K : PySem.W.Frag) : List V → Hp → VK → Prop := fun xs H Q => ∃ (a C t : Addr) (z : Str), xs = [.ref a] ∧ H a = some (ExT C t a) ∧ H t = some (.tup [.str z]) ∧ PySem.W.findIn K (.ref C) "__str__" = some (some (.builtin "BaseException.__str__")) ∧ PySem.W.subIn K (.ref C) (.type "BaseException") = some true ∧ Q (.str z) H
theorem call_strE {k : Nat} (hr : Room k X.A) : CallR X (.type "str") (rStrE X.K) := by
  intro pins s σ H xs us Q I r h
  obtain ⟨a, C, t, z, rfl, ea, et, hs, hB, q⟩ := h
  obtain ⟨u, rfl, ru⟩ := vals1 r
  cases (show u = Value.ref a from ru)
  obtain ⟨⟨oe, vs, ha, hz, hd, h0⟩, _⟩ := I.hok a _ ea
  obtain ⟨_, its, rv, o, h1, h2, n, h3⟩ := (show ObjOk X.prog X.w H s.heap t (.tup [.str z]) from I.hok t _ et)
  obtain ⟨u, rfl, tk, rfl⟩ := vals1 rv
  have un := hr.units
  exact PySem.P.str_of_C_one (by omega) ⟨I.kIn, oe, vs, ha, hz.1, hd, h0⟩ ⟨o, n, h1, h2, h3⟩ hs hB ⟨.str z, H, I, ⟨tk, rfl⟩, q⟩
/-- what reading a field looks at in a class -/
structure FldTxt (K : PySem.W.Frag) (C : Addr) (fld : Str) : Prop where
  ga : PySem.W.findIn K (.ref C) "__getattribute__" = some (some (.builtin "BaseException.__getattribute__"))
  gg : PySem.W.findIn K (.ref C) "__getattr__" = some none
  ex : PySem.W.subIn K (.ref C) (.type "BaseException") = some true
  hd : PySem.W.hasDictIn K C = true
  no : PySem.W.findIn K (.ref C) fld = some none
theorem FldTxt.of {P : Program} {K : PySem.W.Frag} (T : SupTxt P K st qual fld msg C fI cc cda) : FldTxt K C fld := ⟨T.ga, T.gg, T.exC, T.hdC, T.no⟩
/-- e.fld, the class of e told by the heap -/
def tFldV (K : PySem.W.Frag) (fld : Str) (te : TE) : TE := fun σ H Q => te σ H fun x H1 => ∃ (a C d : Addr) (v : V), x = .ref a ∧ FldTxt K C fld ∧ H1 a = some (ExK (.ref C) (some d) a) ∧ H1 d = some (.xd [(fld, v)]) ∧ Q v H1
theorem pe_fldV {K : PySem.W.Frag} (hK : X.K = K) {e : Expr} {te : TE} {pos : Pos} (he : PE X e te)
    (hb : attributeBase e fld X.env (eval e X.env) = eval e X.env := by rfl) (hnd : (fld == ("__dict__" : Str)) = false := by decide) (hnc : (fld == ("__class__" : Str)) = false := by decide) :
    PE X (.Attribute e fld pos) (tFldV K fld te) := by
  subst hK
  refine ⟨fun pins s σ H Q I h => ?_⟩
  refine attr_of hb (thn (he.run pins s σ H _ I h) fun u s1 hh => ?_)
  obtain ⟨x, H1, I1, rx, a, C, d, v, ex, T, ea, ed, q⟩ := hh
  subst ex
  obtain rfl : u = Value.ref a := rx
  obtain ⟨oe, od, mA, J, hl, hr⟩ := held_at I1 ea ed
  have l : List.lookup fld [(fld, v)] = some v := by simp [List.lookup]
  obtain ⟨u, hu, ru⟩ := RelO.some_of (v := v) (o := mA fld) (by rw [← l]; exact hr fld)
  exact HandSPX.exc_get I1.kIn J T.ga T.gg T.ex (PySem.W.findObj_own T.hd T.no rfl (by rw [hl, hu])) (handed_of ru) ⟨v, H1, I1.tok _, ru, q⟩
end
end Lot

/-! Further texts of own exceptions; the row of isinstance flags. -/
namespace Lot
open PySem PySem.Spec PyProof.Rows
section
variable {prog : Program} {w : World} {fld a b : Str}
/-- a written text alone -/
theorem msg_const {k1 : _} {p1 : Pos} {ok : Value → Prop} : MsgOk prog w (.Constant (.str a) k1 p1) fld ok := by
  intro A E Q env v s m kf kl hn hm hv q
  exact Calls.Constant_str (q _ _ _)
/-- the field (an int), a written text -/
theorem msg_pre {k2 : _} {p2 p3 p4 p5 : Pos} (hnd : (fld == ("__debug__" : Str)) = false) (hb : b.length ≤ 1000) :
    MsgOk prog w (.JoinedStr [.FormattedValue (.Name fld p2) (-1) none p3, .Constant (.str b) k2 p4] p5) fld okInt := by
  intro A E Q env v s m kf kl hn hm hv q
  obtain ⟨i, t, rfl, hz⟩ := hv
  have len : ∀ x y : Str, (x ++ y).length = x.length + y.length := str_app_len
  have e0 : Str.empty.length = 0 := rfl
  have hi := PyProof.Rows.int_text_len_1921 hz
  have hs : 10000 ≤ sizeLine := by decide
  refine wpAny_JoinedStr ?_
  show Joins _ _ _ [eval (.FormattedValue (.Name fld p2) (-1) none p3) env, eval (.Constant (.str b) k2 p4) env] _ _ _
  refine wpAny_FormattedValue_plain (ESX.ldL hn hm ?_ kf kl hnd)
  refine wpAny_formatField_int hz ⟨_, _, rfl, by rw [len]; have : (toString i : Str).length ≤ 1921 := hi; omega, ?_⟩
  refine Calls.Constant_str ⟨b, _, rfl, by rw [len, len]; have : (toString i : Str).length ≤ 1921 := hi; omega, ?_⟩
  exact ⟨by rw [len, len]; have : (toString i : Str).length ≤ 1921 := hi; omega, q _ _ _⟩
/-- a written text, the field (an int) -/
theorem msg_post {k1 : _} {p1 p2 p3 p5 : Pos} (hnd : (fld == ("__debug__" : Str)) = false) (ha : a.length ≤ 1000) :
    MsgOk prog w (.JoinedStr [.Constant (.str a) k1 p1, .FormattedValue (.Name fld p2) (-1) none p3] p5) fld okInt := by
  intro A E Q env v s m kf kl hn hm hv q
  obtain ⟨i, t, rfl, hz⟩ := hv
  have len : ∀ x y : Str, (x ++ y).length = x.length + y.length := str_app_len
  have e0 : Str.empty.length = 0 := rfl
  have hi := PyProof.Rows.int_text_len_1921 hz
  have hs : 10000 ≤ sizeLine := by decide
  refine wpAny_JoinedStr ?_
  show Joins _ _ _ [eval (.Constant (.str a) k1 p1) env, eval (.FormattedValue (.Name fld p2) (-1) none p3) env] _ _ _
  refine Calls.Constant_str ⟨a, _, rfl, by rw [len]; omega, ?_⟩
  refine wpAny_FormattedValue_plain (ESX.ldL hn hm ?_ kf kl hnd)
  refine wpAny_formatField_int hz ⟨_, _, rfl, by rw [len, len]; have : (toString i : Str).length ≤ 1921 := hi; omega, ?_⟩
  exact ⟨by rw [len, len]; have : (toString i : Str).length ≤ 1921 := hi; omega, q _ _ _⟩
/-- a short text -/
def okText (v : Value) : Prop := ∃ (z : Str) (t : Tok), v = .str z t ∧ z.length ≤ 1000
/-- a written text, the field (a text) -/
theorem msg_postS {k1 : _} {p1 p2 p3 p5 : Pos} (hnd : (fld == ("__debug__" : Str)) = false) (ha : a.length ≤ 1000) :
    MsgOk prog w (.JoinedStr [.Constant (.str a) k1 p1, .FormattedValue (.Name fld p2) (-1) none p3] p5) fld okText := by
  intro A E Q env v s m kf kl hn hm hv q
  obtain ⟨z, t, rfl, hz⟩ := hv
  have len : ∀ x y : Str, (x ++ y).length = x.length + y.length := str_app_len
  have e0 : Str.empty.length = 0 := rfl
  have hs : 10000 ≤ sizeLine := by decide
  refine wpAny_JoinedStr ?_
  show Joins _ _ _ [eval (.Constant (.str a) k1 p1) env, eval (.FormattedValue (.Name fld p2) (-1) none p3) env] _ _ _
  refine Calls.Constant_str ⟨a, _, rfl, by rw [len]; omega, ?_⟩
  refine wpAny_FormattedValue_plain (ESX.ldL hn hm ?_ kf kl hnd)
  refine wpAny_formatField_str ⟨_, _, rfl, by rw [len, len]; omega, ?_⟩ ⟨_, _, rfl, by rw [len, len]; omega, ?_⟩ (by omega)
  · exact ⟨by rw [len, len]; omega, q _ _ _⟩
  · exact ⟨by rw [len, len]; omega, q _ _ _⟩
end
end Lot
namespace Lot
open PySem PySem.Spec PyProof.Rows L2
theorem IsE.same {H H' : Hp} {a C : Addr} (h : IsE H a C) (s : Same H H') : IsE H' a C := by
  rcases h with ⟨d, fs, ea, ed⟩ | ⟨t, ea⟩
  · exact .inl ⟨d, fs, s _ _ ea, s _ _ ed⟩
  · exact .inr ⟨t, s _ _ ea⟩
/-- of which of these classes the class at C is one -/
def Kinds (K : PySem.W.Frag) (C : Addr) (ds : List Addr) (bs : List Bool) : Prop := Paired (fun D b => PySem.W.kitOne K (.ref C) (.ref D) = some b) ds bs
end Lot
namespace Lot
open PySem PySem.Spec PyProof.Rows L2
theorem Kinds.uncons {K : PySem.W.Frag} {C D : Addr} {ds : List Addr} {bs : List Bool} (h : Kinds K C (D :: ds) bs) : ∃ b r, bs = b :: r ∧ PySem.W.kitOne K (.ref C) (.ref D) = some b ∧ Kinds K C ds r := by
  unfold Kinds at h
  cases h with
  | cons x y => exact ⟨_, _, rfl, x, y⟩
theorem Kinds.unnil {K : PySem.W.Frag} {C : Addr} {bs : List Bool} (h : Kinds K C [] bs) : bs = [] := by
  unfold Kinds at h
  cases h
  rfl
end Lot
namespace Lot
open PySem PySem.Spec PyProof.Rows L2
theorem call_strEK {X : Cx} {K : PySem.W.Frag} (hK : X.K = K) (hu : X.A.units + 2 < cLine) : CallR X (.type "str") (rStrE K) := by
  subst hK
  intro pins s σ H xs us Q I r h
  obtain ⟨a, C, t, z, rfl, ea, et, hs, hB, q⟩ := h
  obtain ⟨u, rfl, ru⟩ := vals1 r
  cases (show u = Value.ref a from ru)
  obtain ⟨⟨oe, vs, ha, hz, hd, h0⟩, _⟩ := I.hok a _ ea
  obtain ⟨_, its, rv, o, h1, h2, n, h3⟩ := (show ObjOk X.prog X.w H s.heap t (.tup [.str z]) from I.hok t _ et)
  obtain ⟨u, rfl, tk, rfl⟩ := vals1 rv
  exact PySem.P.str_of_C_one hu ⟨I.kIn, oe, vs, ha, hz.1, hd, h0⟩ ⟨o, n, h1, h2, h3⟩ hs hB ⟨.str z, H, I, ⟨tk, rfl⟩, q⟩
end Lot
namespace Lot
open PySem PySem.Spec PyProof.Rows L2
/-- an exception of the class at C with one field -/
def HeldAt (H : Hp) (e C : Addr) (fld : Str) (v : V) : Prop := ∃ d, H e = some (ExK (.ref C) (some d) e) ∧ H d = some (.xd [(fld, v)])
theorem HeldAt.same {H H' : Hp} {e C : Addr} {fld : Str} {v : V} (h : HeldAt H e C fld v) (s : Same H H') : HeldAt H' e C fld v := by
  obtain ⟨d, a, b⟩ := h
  exact ⟨d, s _ _ a, s _ _ b⟩
theorem HeldAt.is {H : Hp} {e C : Addr} {fld : Str} {v : V} (h : HeldAt H e C fld v) : IsE H e C := by
  obtain ⟨d, a, b⟩ := h
  exact .inl ⟨d, _, a, b⟩
theorem held_new {H : Hp} {d e C : Addr} {fld : Str} {v : V} (hd : H d = none) (he : H e = none) (hne : e ≠ d) :
    HeldAt (upd (upd H d (.xd [(fld, v)])) e (ExK (.ref C) (some d) e)) e C fld v ∧ Same H (upd (upd H d (.xd [(fld, v)])) e (ExK (.ref C) (some d) e)) := by
  have h1 : (upd H d (.xd [(fld, v)])) e = none := by rw [upd_ne hne]; exact he
  exact ⟨⟨d, upd_same, by rw [upd_ne (Ne.symm hne)]; exact upd_same⟩, (same_upd hd).trans (same_upd h1)⟩
/-- an exception of the class at C of one text -/
def TextAt (H : Hp) (e C : Addr) (z : Str) : Prop := ∃ t, H e = some (ExT C t e) ∧ H t = some (.tup [.str z])
theorem TextAt.same {H H' : Hp} {e C : Addr} {z : Str} (h : TextAt H e C z) (s : Same H H') : TextAt H' e C z := by
  obtain ⟨t, a, b⟩ := h
  exact ⟨t, s _ _ a, s _ _ b⟩
theorem TextAt.is {H : Hp} {e C : Addr} {z : Str} (h : TextAt H e C z) : IsE H e C := by
  obtain ⟨t, a, b⟩ := h
  exact .inr ⟨t, a⟩
theorem text_new {H : Hp} {t e C : Addr} {z : Str} (ht : H t = none) (he : H e = none) (hne : e ≠ t) :
    TextAt (upd (upd H t (.tup [.str z])) e (ExT C t e)) e C z ∧ Same H (upd (upd H t (.tup [.str z])) e (ExT C t e)) := by
  have h1 : (upd H t (.tup [.str z])) e = none := by rw [upd_ne hne]; exact he
  exact ⟨⟨t, upd_same, by rw [upd_ne (Ne.symm hne)]; exact upd_same⟩, (same_upd ht).trans (same_upd h1)⟩
/-- the paper of a refusal, in its three forms -/
def PaperAt (H : Hp) (pp : Addr) (num : Nat) (text : Str) : Prop := H pp = some (.tup [.str (Str.ofString "faces"), .int (num : Int)]) ∨
  (∃ t, H pp = some (.tup [.str (Str.ofString "turns"), .ref t]) ∧ H t = some (.tup [.int (num : Int), .int ((num : Int) + 1)])) ∨ H pp = some (.tup [.str (Str.ofString "lack"), .int (num : Int), .str text])
theorem PaperAt.same {H H' : Hp} {pp : Addr} {num : Nat} {text : Str} (h : PaperAt H pp num text) (s : Same H H') : PaperAt H' pp num text := by
  rcases h with h | ⟨t, a, b⟩ | h
  · exact .inl (s _ _ h)
  · exact .inr (.inl ⟨t, s _ _ a, s _ _ b⟩)
  · exact .inr (.inr (s _ _ h))
end Lot
namespace Lot
open PySem PySem.Spec PyProof.Rows L2
theorem dec_ints (k j : Nat) : decide (V.int (0 + (k : Int)) = V.int (0 + (j : Int))) = decide (k = j) := by
  by_cases h : k = j
  · subst h
    rw [decide_eq_true rfl, decide_eq_true rfl]
  · rw [decide_eq_false h, decide_eq_false fun z => h (by have := V.int.inj z; omega)]
/-- rows of truth values, the k-th true at k alone -/
def rowB (n k : Nat) : List Bool := (List.range n).map fun j => decide (k = j)
theorem rowB_succ (n k : Nat) : rowB (n + 1) k = rowB n k ++ [decide (k = n)] := by
  unfold rowB
  rw [List.range_succ, List.map_append]
  rfl
theorem rowB_flags : ∀ k, k < 13 → rowB 13 k ++ [false, false] = rowB 15 k := by decide
def RowsAt (H : Hp) : List Addr → List (List Bool) → Prop
  | [], [] => True
  | a :: as, b :: bs => H a = some (.lst (b.map V.bl)) ∧ RowsAt H as bs
  | _, _ => False
theorem RowsAt.same {H H' : Hp} (s : Same H H') : ∀ {as : List Addr} {bs : List (List Bool)}, RowsAt H as bs → RowsAt H' as bs
  | [], [], _ => trivial
  | _ :: _, _ :: _, ⟨h, t⟩ => ⟨s _ _ h, RowsAt.same s t⟩
theorem RowsAt.snoc {H : Hp} {a : Addr} {b : List Bool} (e : H a = some (.lst (b.map V.bl))) : ∀ {as : List Addr} {bs : List (List Bool)}, RowsAt H as bs → RowsAt H (as ++ [a]) (bs ++ [b])
  | [], [], _ => ⟨e, trivial⟩
  | _ :: _, _ :: _, ⟨h, t⟩ => ⟨h, RowsAt.snoc e t⟩
theorem RowsAt.length {H : Hp} : ∀ {as : List Addr} {bs : List (List Bool)}, RowsAt H as bs → as.length = bs.length
  | [], [], _ => rfl
  | _ :: as, _ :: bs, ⟨_, t⟩ => congrArg Nat.succ (RowsAt.length t)
/-- the rows as data -/
def dBools (b : List Bool) : PyData := .list (b.map .bool)
theorem bools_data {K : PySem.W.Frag} {H : Hp} : ∀ b : List Bool, DpAll K H (b.map V.bl) (b.map PyData.bool)
  | [] => .nil
  | x :: r => .cons (.bl x) (bools_data r)
theorem RowsAt.data {K : PySem.W.Frag} {H : Hp} : ∀ {as : List Addr} {bs : List (List Bool)}, RowsAt H as bs → DpAll K H (as.map V.ref) (bs.map dBools)
  | [], [], _ => .nil
  | _ :: _, b :: _, ⟨h, t⟩ => .cons (.lst (.inl (.inl h)) (bools_data b)) (RowsAt.data t)
end Lot
namespace Lot
open PySem PySem.Spec PyProof.Rows L2
theorem RowsAt.but {D : Addr} {H H' : Hp} (s : But D H H') : ∀ {as : List Addr} {bs : List (List Bool)}, RowsAt H as bs → (∀ a ∈ as, a ≠ D) → RowsAt H' as bs
  | [], [], _, _ => trivial
  | a :: _, _ :: _, ⟨h, t⟩, n => ⟨s _ _ (n a List.mem_cons_self) h, RowsAt.but s t fun x hx => n x (List.mem_cons_of_mem _ hx)⟩
end Lot
namespace Lot
open PySem PySem.Spec PyProof.Rows L2
/-- what is asked of the i-th class -/
structure Fam (K : PySem.W.Frag) (ds : List Addr) (dS C : Addr) (i : Nat) : Prop where
  t : IsTxt K C
  k : Kinds K C ds (rowB 13 i)
  s : PySem.W.kitOne K (.ref C) (.ref dS) = some true
  v : PySem.W.kitOne K (.ref C) (.type "ValueError") = some true
end Lot

namespace L_k57
open PySem PySem.Spec PyProof.Rows L2 Lot
def topS (i : Nat) : Stmt := PySem.Challenge.pw_stridelots_k57_refusals_made.main.body.getD i (.Pass ⟨0, 0, 0, 0⟩)
abbrev sPot : Stmt := topS 16
abbrev sDip : Stmt := topS 17
theorem scPot : FnScope ["script", "at", "cell"] ["script", "at"] (defScope sPot) := ⟨rfl, rfl, rfl, by decide +kernel, rfl, by decide +kernel, by decide +kernel⟩
theorem scDip : FnScope ["pot", "many", "digit", "mixed"] ["pot", "many"] (defScope sDip) := ⟨rfl, rfl, rfl, by decide +kernel, rfl, by decide +kernel, by decide +kernel⟩
section
variable {P : Program} {w : World} {K : PySem.W.Frag} {mg : Str → Option Value} {base : Heap}
def spPot (K : PySem.W.Frag) : Sp := fun vs H Q _ => ∃ (a : Addr) (ns : List Int) (i : Nat), vs = [.ref a, .int i] ∧ SqL K H a (ns.map V.int) ∧ i ≤ 1000 ∧
  ∀ p ws, H p = none → PotV 0 ws → Q (.ref p) (upd H p (.lst ws))
theorem ok_pot {f : Addr} {fd : FuncData} {k : Nat} (F : Fun K "_law_pot" "_law_pot" sPot f fd) (ml : mg "len" = none) (mx : mg "max" = none) : FnOk P w K mg base CX0 (k + 1) f fd ["script", "at"] (spPot K) := by
  refine F.ok scPot (fun vs H Q E h => ?_) (fun cdv A outer s H vs Q E hr h => ?_)
  · obtain ⟨a, ns, i, rfl, _⟩ := h
    rfl
  · obtain ⟨a, ns, i, rfl, hS, hi, q⟩ := h
    refine ⟨_, pss_cons (ps_set (i := 2) scPot.nd rfl (.inl rfl) pe_int)
      (pss_cons (ps_if (pt_cmpR op_lt (pv 1) (pe_callB call_len_seq (by rfl) ml PySem.boot_len (pa_cons (pv 0) pa_nil)) (nomark _))
          (pss_one (ps_set (i := 2) scPot.nd rfl (.inl rfl) (pe_ix ix_list (pv 0) (pv 1) (fun _ _ => rfl)))) pss_nil)
      (pss_one (ps_ret (pe_lst (pa_cons (pe_callB (call_max2 rfl) (by rfl) mx (by decide +kernel) (pa_cons pe_int (pa_cons (pe_op op_sub (pv 2) (pe_op op_pow pe_int pe_int)) pa_nil)))
        (pa_cons (pe_op op_add (pe_op op_mod (pv 2) (pe_op op_add (pe_op op_pow pe_int pe_int) pe_int)) (pe_op op_mul pe_int (pv 1)))
        (pa_cons pe_int pa_nil))))))), ?_⟩
    have fin : ∀ cell : Int, (0 ≤ if cell - 10 ^ (18 : Int).toNat > 0 then cell - 10 ^ (18 : Int).toNat else 0) ∧ 0 ≤ cell % (10 ^ (37 : Int).toNat + 43) + 104729 * (i : Int) ∧ cell % (10 ^ (37 : Int).toNat + 43) + 104729 * (i : Int) < 10 ^ 39 := fun cell => by
      have := modlt (a := cell) (b := 10 ^ (37 : Int).toNat + 43) (by decide)
      have e : (10 : Int) ^ (37 : Int).toNat + 43 + 104729 * 1000 < 10 ^ 39 := by decide
      refine ⟨?_, by omega, by omega⟩
      split <;> omega
    refine ⟨.int i, rfl, .ref a, rfl, a, ns.map V.int, rfl, .inl hS, _, _, rfl, rfl, _, rfl, ite2 (fun e => ?_) (fun e => ?_)⟩
    · have hlt : i < ns.length := by
        have := of_decide_eq_true e
        rw [List.length_map] at this
        omega
      refine ⟨.ref a, rfl, .int i, rfl, a, _, (i : Int), .int ns[i], rfl, rfl, hS, atI_nat (by rw [List.getElem?_map, List.getElem?_eq_getElem hlt]; rfl), ?_⟩
      refine ⟨_, rfl, 10, 18, rfl, rfl, ⟨by decide, by decide, by decide⟩, ns[i], _, rfl, rfl, 0, _, rfl, ?_⟩
      refine ⟨_, rfl, 10, 37, rfl, rfl, ⟨by decide, by decide, by decide⟩, _, _, rfl, rfl, ns[i], _, rfl, rfl, (by show (0 : Int) < 10 ^ 37 + 43; decide), ?_⟩
      refine ⟨.int i, rfl, 104729, (i : Int), rfl, rfl, .inl ⟨by decide, by decide⟩, _, _, rfl, rfl, ?_⟩
      exact ⟨(by show 3 ≤ sizeLine; decide), fun p np => q p _ np ⟨_, _, _, rfl, (fin ns[i]).1, (fin ns[i]).2.1, (fin ns[i]).2.2, Int.le_refl _, Int.le_refl _⟩⟩
    · refine ⟨_, rfl, 10, 18, rfl, rfl, ⟨by decide, by decide, by decide⟩, 0, _, rfl, rfl, 0, _, rfl, ?_⟩
      refine ⟨_, rfl, 10, 37, rfl, rfl, ⟨by decide, by decide, by decide⟩, _, _, rfl, rfl, 0, _, rfl, rfl, (by show (0 : Int) < 10 ^ 37 + 43; decide), ?_⟩
      refine ⟨.int i, rfl, 104729, (i : Int), rfl, rfl, .inl ⟨by decide, by decide⟩, _, _, rfl, rfl, ?_⟩
      exact ⟨(by show 3 ≤ sizeLine; decide), fun p np => q p _ np ⟨_, _, _, rfl, (fin 0).1, (fin 0).2.1, (fin 0).2.2, Int.le_refl _, Int.le_refl _⟩⟩
/-- a draw: a number below m; the pot changes alone -/
def spDip : Sp := fun vs H Q _ => ∃ (p : Addr) (m : Int) (N : Nat), vs = [.ref p, .int m] ∧ 0 < m ∧ m ≤ 10 ^ 18 ∧ PotAt H p N ∧ N ≤ 1000000 ∧
  ∀ (r : Nat) ws, (r : Int) < m → PotV (N + 1) ws → Q (.int r) (upd H p (.lst ws))
theorem ok_dip {f : Addr} {fd : FuncData} {k : Nat} (F : Fun K "_law_dip" "_law_dip" sDip f fd) : FnOk P w K mg base CX0 (k + 1) f fd ["pot", "many"] spDip := by
  refine F.ok scDip (fun vs H Q E h => ?_) (fun cdv A outer s H vs Q E hr h => ?_)
  · obtain ⟨p, m, N, rfl, _⟩ := h
    rfl
  · obtain ⟨p, m, N, rfl, hm, hm2, ⟨ws, hp, a, c, n, rfl, h0, h1, h2, h3, h4⟩, hN, q⟩ := h
    refine ⟨_, pss_cons (ps_if (pt_cmpR op_gt (pe_ix ix_list (pv 0) pe_int (fun _ _ => rfl)) pe_int (nomark _))
        (pss_cons (ps_set (i := 2) scDip.nd rfl (.inl rfl) (pe_op op_mod (pe_ix ix_list (pv 0) pe_int (fun _ _ => rfl)) (pv 1)))
        (pss_cons (ps_asg (pe_op op_fdivW (pe_ix ix_list (pv 0) pe_int (fun _ _ => rfl)) (pv 1)) (pg_sub (pv 0) pe_int set_list))
        (pss_one (ps_ret (pv 2))))) pss_nil)
      (pss_cons (ps_asg (pe_op op_add (pe_ix ix_list (pv 0) pe_int (fun _ _ => rfl)) pe_int) (pg_sub (pv 0) pe_int set_list))
      (pss_cons (ps_set (i := 3) scDip.nd rfl (.inl rfl) (pe_op op_mod (pe_op op_powW (pe_op op_add (pe_ix ix_list (pv 0) pe_int (fun _ _ => rfl)) (pe_op op_mul pe_int (pe_ix ix_list (pv 0) pe_int (fun _ _ => rfl)))) pe_int) (pe_op op_add (pe_op op_pow pe_int pe_int) pe_int)))
      (pss_cons (ps_set (i := 3) scDip.nd rfl (.inl rfl) (pe_op op_mod (pe_op op_powW (pe_op op_add (pv 3) (pe_op op_mul pe_int (pe_ix ix_list (pv 0) pe_int (fun _ _ => rfl)))) pe_int) (pe_op op_add (pe_op op_pow pe_int pe_int) pe_int)))
      (pss_one (ps_ret (pe_op op_mod (pe_op op_fdiv (pv 3) pe_int) (pv 1))))))), ?_⟩
    have hL : SqL K H p [.int a, .int c, .int n] := .inl (.inl hp)
    have i0 : atI ([.int a, .int c, .int n] : List V) 0 = some (.int a) := atI_nat (j := 0) rfl
    have i2 : atI ([.int a, .int c, .int n] : List V) 2 = some (.int n) := atI_nat (j := 2) rfl
    refine ⟨.ref p, rfl, p, _, 0, .int a, rfl, rfl, hL, i0, a, 0, rfl, rfl, _, rfl, ite2 (fun e => ?_) (fun e => ?_)⟩
    · have ha : 0 < a := of_decide_eq_true e
      have hr := modlt (a := a) hm
      refine ⟨.ref p, rfl, p, _, 0, .int a, rfl, rfl, hL, i0, .int m, rfl, a, m, rfl, rfl, hm, ?_⟩
      refine ⟨.ref p, rfl, p, _, 0, .int a, rfl, rfl, hL, i0, .int m, rfl, a, m, rfl, rfl, wide_div (b := 70) hm (int_lt_pow (Int.le_of_lt hm) (Int.lt_of_le_of_lt hm2 (by decide))) (by decide) (by decide), ?_⟩
      refine ⟨.ref p, rfl, p, _, 0, 0, rfl, rfl, hp, rfl, ?_⟩
      refine ⟨.int (a % m), rfl, ?_⟩
      have er : a % m = (((a % m).toNat : Nat) : Int) := (Int.toNat_of_nonneg hr.1).symm
      rw [er]
      exact q _ _ (by rw [← er]; exact hr.2) ⟨_, _, _, rfl, Int.ediv_nonneg h0 (by omega), h1, h2, h3, by omega⟩
    · refine ⟨.ref p, rfl, p, _, 2, .int n, rfl, rfl, hL, i2, n, 1, rfl, rfl, ?_⟩
      refine ⟨.ref p, rfl, p, _, 2, 2, rfl, rfl, hp, rfl, ?_⟩
      have hp2 : (upd H p (.lst [.int a, .int c, .int (n + 1)])) p = some (.lst [.int a, .int c, .int (n + 1)]) := upd_same
      have hL2 : SqL K (upd H p (.lst [.int a, .int c, .int (n + 1)])) p [.int a, .int c, .int (n + 1)] := .inl (.inl hp2)
      have j1 : atI ([.int a, .int c, .int (n + 1)] : List V) 1 = some (.int c) := atI_nat (j := 1) rfl
      have j2 : atI ([.int a, .int c, .int (n + 1)] : List V) 2 = some (.int (n + 1)) := atI_nat (j := 2) rfl
      refine ⟨.ref p, rfl, p, _, 1, .int c, rfl, rfl, hL2, j1, .ref p, rfl, p, _, 2, .int (n + 1), rfl, rfl, hL2, j2, 9999991, n + 1, rfl, rfl, .inl ⟨by decide, by decide⟩, c, _, rfl, rfl, ?_⟩
      have b1 : (c + 9999991 * (n + 1)).natAbs < 2 ^ 200 := int_lt_pow (by omega) (by
        have : (10 : Int) ^ 39 + 9999991 * 1000002 < 2 ^ 200 := by decide
        omega)
      refine ⟨_, 3, rfl, rfl, ⟨by decide, by decide, b1⟩, 10, 36, rfl, rfl, ⟨by decide, by decide, by decide⟩, _, 67, rfl, rfl, _, _, rfl, rfl, (by show (0 : Int) < 10 ^ 36 + 67; decide), ?_⟩
      obtain ⟨z, hz⟩ : ∃ z, z = (c + 9999991 * (n + 1)) ^ (3 : Int).toNat % (10 ^ (36 : Int).toNat + 67) := ⟨_, rfl⟩
      have hz1 := modlt (a := (c + 9999991 * (n + 1)) ^ (3 : Int).toNat) (b := 10 ^ (36 : Int).toNat + 67) (by decide)
      rw [← hz] at hz1
      refine ⟨.int z, congrArg (fun i => some (some (V.int i))) hz.symm, .ref p, rfl, p, _, 2, .int (n + 1), rfl, rfl, hL2, j2, 7919, n + 1, rfl, rfl, .inl ⟨by decide, by decide⟩, z, _, rfl, rfl, ?_⟩
      have b2 : (z + 7919 * (n + 1)).natAbs < 2 ^ 200 := int_lt_pow (by omega) (by
        have : (10 : Int) ^ (36 : Int).toNat + 67 + 7919 * 1000002 < 2 ^ 200 := by decide
        omega)
      refine ⟨_, 3, rfl, rfl, ⟨by decide, by decide, b2⟩, 10, 33, rfl, rfl, ⟨by decide, by decide, by decide⟩, _, 61, rfl, rfl, _, _, rfl, rfl, (by show (0 : Int) < 10 ^ 33 + 61; decide), ?_⟩
      obtain ⟨y, hy⟩ : ∃ y, y = (z + 7919 * (n + 1)) ^ (3 : Int).toNat % (10 ^ (33 : Int).toNat + 61) := ⟨_, rfl⟩
      refine ⟨.int y, congrArg (fun i => some (some (V.int i))) hy.symm, y, 4096, rfl, rfl, ⟨by decide, by decide⟩, .int m, rfl, y / 4096, m, rfl, rfl, hm, ?_⟩
      have hr := modlt (a := y / 4096) hm
      have er : y / 4096 % m = (((y / 4096 % m).toNat : Nat) : Int) := (Int.toNat_of_nonneg hr.1).symm
      show Q (.int (y / 4096 % m)) _
      rw [er]
      exact q _ _ (by rw [← er]; exact hr.2) ⟨_, _, _, rfl, h0, h1, h2, by omega, by omega⟩
end
end L_k57

namespace L_k57
open PySem PySem.Spec PyProof.Rows L2 Lot
abbrev sFlags : Stmt := topS 18
theorem scFlags : FnScope ["e", "found"] ["e"] (defScope sFlags) := ⟨rfl, rfl, rfl, by decide +kernel, rfl, by decide +kernel, by decide +kernel⟩
section
variable {P : Program} {w : World} {K : PySem.W.Frag} {mg : Str → Option Value} {base : Heap}
/-- _law_flags(e): the row of what e is -/
def spFlags (K : PySem.W.Frag) (ds : List Addr) (dS : Addr) : Sp := fun vs H Q _ => ∃ (a C : Addr) (bs : List Bool), vs = [.ref a] ∧ IsE H a C ∧ IsTxt K C ∧ Kinds K C ds bs ∧ PySem.W.kitOne K (.ref C) (.ref dS) = some true ∧ PySem.W.kitOne K (.ref C) (.type "ValueError") = some true ∧
  ∀ H' L, Same H H' → H L = none → H' L = some (.lst ((bs ++ [false, false]).map V.bl)) → Q (.ref L) H'
theorem ok_flags {f dNoStanding dNoBook dNoDeed dNoTurning dNotEven dNoRound dNoPair dBarred dTooMany dFew dNoPlan dNoName dFull dStrideError : Addr} {fd : FuncData} (F : Fun K "_law_flags" "_law_flags" sFlags f fd) (m_isinstance : mg "isinstance" = none) (m_ValueError : mg "ValueError" = none)
    (c_NoStanding : mg "NoStanding" = some (.ref dNoStanding)) (c_NoBook : mg "NoBook" = some (.ref dNoBook)) (c_NoDeed : mg "NoDeed" = some (.ref dNoDeed)) (c_NoTurning : mg "NoTurning" = some (.ref dNoTurning)) (c_NotEven : mg "NotEven" = some (.ref dNotEven)) (c_NoRound : mg "NoRound" = some (.ref dNoRound)) (c_NoPair : mg "NoPair" = some (.ref dNoPair)) (c_Barred : mg "Barred" = some (.ref dBarred)) (c_TooMany : mg "TooMany" = some (.ref dTooMany)) (c_Few : mg "Few" = some (.ref dFew)) (c_NoPlan : mg "NoPlan" = some (.ref dNoPlan)) (c_NoName : mg "NoName" = some (.ref dNoName)) (c_Full : mg "Full" = some (.ref dFull)) (c_StrideError : mg "StrideError" = some (.ref dStrideError)) :
    FnOk P w K mg base CX0 1 f fd ["e"] (spFlags K [dNoStanding, dNoBook, dNoDeed, dNoTurning, dNotEven, dNoRound, dNoPair, dBarred, dTooMany, dFew, dNoPlan, dNoName, dFull] dStrideError) := by
  refine F.ok scFlags (fun vs H Q E h => ?_) (fun cdv A outer s H vs Q E hr h => ?_)
  · obtain ⟨a, C, bs, rfl, _⟩ := h
    rfl
  · obtain ⟨a, C, bs, rfl, hE, T, hK, hS, hV, q⟩ := h
    obtain ⟨b0, r0, rfl, e0, k0⟩ := hK.uncons
    obtain ⟨b1, r1, rfl, e1, k1⟩ := k0.uncons
    obtain ⟨b2, r2, rfl, e2, k2⟩ := k1.uncons
    obtain ⟨b3, r3, rfl, e3, k3⟩ := k2.uncons
    obtain ⟨b4, r4, rfl, e4, k4⟩ := k3.uncons
    obtain ⟨b5, r5, rfl, e5, k5⟩ := k4.uncons
    obtain ⟨b6, r6, rfl, e6, k6⟩ := k5.uncons
    obtain ⟨b7, r7, rfl, e7, k7⟩ := k6.uncons
    obtain ⟨b8, r8, rfl, e8, k8⟩ := k7.uncons
    obtain ⟨b9, r9, rfl, e9, k9⟩ := k8.uncons
    obtain ⟨b10, r10, rfl, e10, k10⟩ := k9.uncons
    obtain ⟨b11, r11, rfl, e11, k11⟩ := k10.uncons
    obtain ⟨b12, r12, rfl, e12, k12⟩ := k11.uncons
    obtain rfl := k12.unnil
    refine ⟨_, (pss_cons (ps_set (i := 1) scFlags.nd rfl (by first | exact .inl rfl | exact .inr rfl) (pe_lst (pa_cons (pe_callB call_isV (by rfl) m_isinstance (by decide +kernel) (pa_cons (pv 0) (pa_cons (pe_glob (v := .ref dNoStanding) (by rfl) c_NoStanding rfl) pa_nil))) (pa_cons (pe_callB call_isV (by rfl) m_isinstance (by decide +kernel) (pa_cons (pv 0) (pa_cons (pe_glob (v := .ref dNoBook) (by rfl) c_NoBook rfl) pa_nil))) (pa_cons (pe_callB call_isV (by rfl) m_isinstance (by decide +kernel) (pa_cons (pv 0) (pa_cons (pe_glob (v := .ref dNoDeed) (by rfl) c_NoDeed rfl) pa_nil))) (pa_cons (pe_callB call_isV (by rfl) m_isinstance (by decide +kernel) (pa_cons (pv 0) (pa_cons (pe_glob (v := .ref dNoTurning) (by rfl) c_NoTurning rfl) pa_nil))) pa_nil))))))
      (pss_cons (ps_set (i := 1) scFlags.nd rfl (by first | exact .inl rfl | exact .inr rfl) (pe_op op_cat (pv 1) (pe_lst (pa_cons (pe_callB call_isV (by rfl) m_isinstance (by decide +kernel) (pa_cons (pv 0) (pa_cons (pe_glob (v := .ref dNotEven) (by rfl) c_NotEven rfl) pa_nil))) (pa_cons (pe_callB call_isV (by rfl) m_isinstance (by decide +kernel) (pa_cons (pv 0) (pa_cons (pe_glob (v := .ref dNoRound) (by rfl) c_NoRound rfl) pa_nil))) (pa_cons (pe_callB call_isV (by rfl) m_isinstance (by decide +kernel) (pa_cons (pv 0) (pa_cons (pe_glob (v := .ref dNoPair) (by rfl) c_NoPair rfl) pa_nil))) (pa_cons (pe_callB call_isV (by rfl) m_isinstance (by decide +kernel) (pa_cons (pv 0) (pa_cons (pe_glob (v := .ref dBarred) (by rfl) c_Barred rfl) pa_nil))) pa_nil)))))))
      (pss_cons (ps_set (i := 1) scFlags.nd rfl (by first | exact .inl rfl | exact .inr rfl) (pe_op op_cat (pv 1) (pe_lst (pa_cons (pe_callB call_isV (by rfl) m_isinstance (by decide +kernel) (pa_cons (pv 0) (pa_cons (pe_glob (v := .ref dTooMany) (by rfl) c_TooMany rfl) pa_nil))) (pa_cons (pe_callB call_isV (by rfl) m_isinstance (by decide +kernel) (pa_cons (pv 0) (pa_cons (pe_glob (v := .ref dFew) (by rfl) c_Few rfl) pa_nil))) (pa_cons (pe_callB call_isV (by rfl) m_isinstance (by decide +kernel) (pa_cons (pv 0) (pa_cons (pe_glob (v := .ref dNoPlan) (by rfl) c_NoPlan rfl) pa_nil))) (pa_cons (pe_callB call_isV (by rfl) m_isinstance (by decide +kernel) (pa_cons (pv 0) (pa_cons (pe_glob (v := .ref dNoName) (by rfl) c_NoName rfl) pa_nil))) pa_nil)))))))
      (pss_one (ps_ret (pe_op op_cat (pv 1) (pe_lst (pa_cons (pe_callB call_isV (by rfl) m_isinstance (by decide +kernel) (pa_cons (pv 0) (pa_cons (pe_glob (v := .ref dFull) (by rfl) c_Full rfl) pa_nil))) (pa_cons (pe_not (pe_callB call_isV (by rfl) m_isinstance (by decide +kernel) (pa_cons (pv 0) (pa_cons (pe_glob (v := .ref dStrideError) (by rfl) c_StrideError rfl) pa_nil)))) (pa_cons (pe_not (pe_callB call_isV (by rfl) m_isinstance (by decide +kernel) (pa_cons (pv 0) (pa_cons (pe_bltn (by rfl) m_ValueError (by decide +kernel) rfl (v := .ty "ValueError")) pa_nil)))) pa_nil)))))))))), ?_⟩
    have S0 : Same H H := Same.refl H
    refine ⟨.ref a, rfl, a, C, .ref dNoStanding, .ref dNoStanding, b0, rfl, hE, T, .own _, e0, .ref a, rfl, a, C, .ref dNoBook, .ref dNoBook, b1, rfl, hE, T, .own _, e1, .ref a, rfl, a, C, .ref dNoDeed, .ref dNoDeed, b2, rfl, hE, T, .own _, e2, .ref a, rfl, a, C, .ref dNoTurning, .ref dNoTurning, b3, rfl, hE, T, .own _, e3, (by show 4 ≤ sizeLine; decide), fun q1 n1 => ?_⟩
    have S1 := same_upd (o := .lst [.bl b0, .bl b1, .bl b2, .bl b3]) n1
    have f1 : (upd H q1 (.lst [.bl b0, .bl b1, .bl b2, .bl b3])) q1 = some (.lst ([b0, b1, b2, b3].map V.bl)) := upd_same
    generalize (upd H q1 (.lst [.bl b0, .bl b1, .bl b2, .bl b3])) = H1 at *
    have hE1 := hE.same S1
    refine ⟨.ref q1, rfl, .ref a, rfl, a, C, .ref dNotEven, .ref dNotEven, b4, rfl, hE1, T, .own _, e4, .ref a, rfl, a, C, .ref dNoRound, .ref dNoRound, b5, rfl, hE1, T, .own _, e5, .ref a, rfl, a, C, .ref dNoPair, .ref dNoPair, b6, rfl, hE1, T, .own _, e6, .ref a, rfl, a, C, .ref dBarred, .ref dBarred, b7, rfl, hE1, T, .own _, e7, (by show 4 ≤ sizeLine; decide), fun q2 n2 => ?_⟩
    have Z2 := same_upd (o := .lst [.bl b4, .bl b5, .bl b6, .bl b7]) n2
    have S2 := S1.trans Z2
    have f2 : (upd H1 q2 (.lst [.bl b4, .bl b5, .bl b6, .bl b7])) q2 = some (.lst ([b4, b5, b6, b7].map V.bl)) := upd_same
    generalize (upd H1 q2 (.lst [.bl b4, .bl b5, .bl b6, .bl b7])) = H2 at *
    refine ⟨q1, q2, _, _, rfl, rfl, Z2 _ _ f1, f2, (by rw [List.length_map, List.length_map]; show 8 ≤ sizeLine; decide), fun q3 n3 => ?_⟩
    rw [← List.map_append]
    have Z3 := same_upd (o := .lst (([b0, b1, b2, b3] ++ [b4, b5, b6, b7]).map V.bl)) n3
    have S3 := S2.trans Z3
    have f3 : (upd H2 q3 (.lst (([b0, b1, b2, b3] ++ [b4, b5, b6, b7]).map V.bl))) q3 = some (.lst (([b0, b1, b2, b3] ++ [b4, b5, b6, b7]).map V.bl)) := upd_same
    generalize (upd H2 q3 (.lst (([b0, b1, b2, b3] ++ [b4, b5, b6, b7]).map V.bl))) = H3 at *
    have hE3 := hE.same S3
    refine ⟨.ref q3, rfl, .ref a, rfl, a, C, .ref dTooMany, .ref dTooMany, b8, rfl, hE3, T, .own _, e8, .ref a, rfl, a, C, .ref dFew, .ref dFew, b9, rfl, hE3, T, .own _, e9, .ref a, rfl, a, C, .ref dNoPlan, .ref dNoPlan, b10, rfl, hE3, T, .own _, e10, .ref a, rfl, a, C, .ref dNoName, .ref dNoName, b11, rfl, hE3, T, .own _, e11, (by show 4 ≤ sizeLine; decide), fun q4 n4 => ?_⟩
    have Z4 := same_upd (o := .lst [.bl b8, .bl b9, .bl b10, .bl b11]) n4
    have S4 := S3.trans Z4
    have f4 : (upd H3 q4 (.lst [.bl b8, .bl b9, .bl b10, .bl b11])) q4 = some (.lst ([b8, b9, b10, b11].map V.bl)) := upd_same
    generalize (upd H3 q4 (.lst [.bl b8, .bl b9, .bl b10, .bl b11])) = H4 at *
    refine ⟨q3, q4, _, _, rfl, rfl, Z4 _ _ f3, f4, (by rw [List.length_map, List.length_map]; show 12 ≤ sizeLine; decide), fun q5 n5 => ?_⟩
    rw [← List.map_append]
    have Z5 := same_upd (o := .lst (([b0, b1, b2, b3] ++ [b4, b5, b6, b7] ++ [b8, b9, b10, b11]).map V.bl)) n5
    have S5 := S4.trans Z5
    have f5 : (upd H4 q5 (.lst (([b0, b1, b2, b3] ++ [b4, b5, b6, b7] ++ [b8, b9, b10, b11]).map V.bl))) q5 = some (.lst (([b0, b1, b2, b3] ++ [b4, b5, b6, b7] ++ [b8, b9, b10, b11]).map V.bl)) := upd_same
    generalize (upd H4 q5 (.lst (([b0, b1, b2, b3] ++ [b4, b5, b6, b7] ++ [b8, b9, b10, b11]).map V.bl))) = H5 at *
    have hE5 := hE.same S5
    refine ⟨.ref q5, rfl, .ref a, rfl, a, C, .ref dFull, .ref dFull, b12, rfl, hE5, T, .own _, e12, .ref a, rfl, a, C, .ref dStrideError, .ref dStrideError, true, rfl, hE5, T, .own _, hS, true, rfl, .ref a, rfl, a, C, .ty "ValueError", .type "ValueError", true, rfl, hE5, T, .ty _, hV, true, rfl, (by show 3 ≤ sizeLine; decide), fun q6 n6 => ?_⟩
    have Z6 := same_upd (o := .lst [.bl b12, .bl (!true), .bl (!true)]) n6
    have S6 := S5.trans Z6
    have f6 : (upd H5 q6 (.lst [.bl b12, .bl (!true), .bl (!true)])) q6 = some (.lst ([b12, false, false].map V.bl)) := upd_same
    generalize (upd H5 q6 (.lst [.bl b12, .bl (!true), .bl (!true)])) = H6 at *
    refine ⟨q5, q6, _, _, rfl, rfl, Z6 _ _ f5, f6, (by rw [List.length_map, List.length_map]; show 15 ≤ sizeLine; decide), fun q7 n7 => ?_⟩
    rw [← List.map_append]
    exact q _ q7 (S6.trans (same_upd n7)) (S6.free n7) upd_same
end
end L_k57

namespace L_k57
open PySem PySem.Spec PyProof.Rows L2 Lot
abbrev sLaw : Stmt := topS 19
theorem scLaw : FnScope ["script", "at", "pot", "number", "signs", "text", "k", "paper", "made", "j", "one"] ["script"] (defScope sLaw) := ⟨rfl, rfl, rfl, by decide +kernel, rfl, by decide +kernel, by decide +kernel⟩
section
variable {P : Program} {w : World} {K : PySem.W.Frag} {mg : Str → Option Value} {base : Heap}
abbrev scK : Scope := { kind := .function, names := [((".0" : Str), .local), (("k" : Str), .cell), (("range" : Str), .globalImplicit)], isGenerator := false, isCoroutine := false }
abbrev sg57 : Str := Str.ofString "abz A-09:,.~!\n@*"
theorem sg57_asc : ∀ c ∈ sg57.cps.toList, c < 128 := by decide +kernel
theorem text_can {z : Str} (h : AscS z) : PyData.canLay0 (.str z) = true := by
  show PyData.strOk z = true
  unfold PyData.strOk
  rw [Array.all_eq_true']
  intro c hc
  have := h c (by simpa using hc)
  exact decide_eq_true (by omega)
def StrTxt (K : PySem.W.Frag) (C : Addr) : Prop := PySem.W.findIn K (.ref C) "__str__" = some (some (.builtin "BaseException.__str__")) ∧ PySem.W.subIn K (.ref C) (.type "BaseException") = some true
theorem shaped_of {d : PyData} (h : PyData.canLay0 d = true) (k : PyData.depth d ≤ 64) : SeqAt.shaped d = true := by
  unfold SeqAt.shaped
  rw [h, decide_eq_true k]; rfl
theorem paper_data {K : PySem.W.Frag} {H : Hp} {pp : Addr} {num : Nat} {text : Str} (h : PaperAt H pp num text) (ha : AscS text) : ∃ d : PyData, Dp K H (.ref pp) d ∧ PyData.canLay0 d = true ∧ SeqAt.shaped d = true := by
  have k1 : PyData.canLay0 (.str (Str.ofString "faces")) = true := text_can (by unfold AscS; decide +kernel)
  have k2 : PyData.canLay0 (.str (Str.ofString "turns")) = true := text_can (by unfold AscS; decide +kernel)
  have k3 : PyData.canLay0 (.str (Str.ofString "lack")) = true := text_can (by unfold AscS; decide +kernel)
  rcases h with h | ⟨t, h1, h2⟩ | h
  · have c : PyData.canLay0 (.tuple [.str (Str.ofString "faces"), .int num]) = true := by
      show (PyData.canLay0 (.str (Str.ofString "faces")) && (true && true)) = true
      rw [k1]; rfl
    exact ⟨.tuple [.str (Str.ofString "faces"), .int num], .tup (.inl (.inl h)) (.cons (.str _) (.cons (.int _) .nil)), c, shaped_of c (by show 1 ≤ 64; decide)⟩
  · have c : PyData.canLay0 (.tuple [.str (Str.ofString "turns"), .tuple [.int num, .int ((num : Int) + 1)]]) = true := by
      show (PyData.canLay0 (.str (Str.ofString "turns")) && ((true && (true && true)) && true)) = true
      rw [k2]; rfl
    exact ⟨.tuple [.str (Str.ofString "turns"), .tuple [.int num, .int ((num : Int) + 1)]], .tup (.inl (.inl h1)) (.cons (.str _) (.cons (.tup (.inl (.inl h2)) (.cons (.int _) (.cons (.int _) .nil))) .nil)), c, shaped_of c (by show 2 ≤ 64; decide)⟩
  · have c : PyData.canLay0 (.tuple [.str (Str.ofString "lack"), .int num, .str text]) = true := by
      show (PyData.canLay0 (.str (Str.ofString "lack")) && (true && (PyData.canLay0 (.str text) && true))) = true
      rw [text_can ha, k3]; rfl
    exact ⟨.tuple [.str (Str.ofString "lack"), .int num, .str text], .tup (.inl (.inl h)) (.cons (.str _) (.cons (.int _) (.cons (.str _) .nil))), c, shaped_of c (by show 1 ≤ 64; decide)⟩
theorem okTx_rel (v : V) (u : Value) (r : RelV v u) (h : ∃ z : Str, v = .str z ∧ z.length ≤ 1000) : okText u := by
  obtain ⟨z, rfl, hz⟩ := h
  obtain ⟨t, rfl⟩ := r
  exact ⟨z, t, rfl, hz⟩
theorem okAny_rel (v : V) (u : Value) (r : RelV v u) (h : True) : (fun _ : Value => True) u := trivial
def spLaw (K : PySem.W.Frag) : Sp := fun vs H Q _ => ∃ (a : Addr) (ns : List Int), vs = [.ref a] ∧ SqL K H a (ns.map V.int) ∧ ns.length ≤ 63 ∧ ∀ H', Q (.bl true) H'
theorem ok_law {fpot fdip fflags f dNoStanding dNoBook dNoDeed dNoTurning dNotEven dNoRound dNoPair dBarred dTooMany dFew dNoPlan dNoName dFull dStrideError iNoStanding jNoStanding kNoStanding iNoBook jNoBook kNoBook iNoDeed jNoDeed kNoDeed iNoTurning jNoTurning kNoTurning iBarred jBarred kBarred iTooMany jTooMany kTooMany iFew jFew kFew iNoPlan jNoPlan kNoPlan iNoName jNoName kNoName iFull jFull kFull : Addr} {dpot ddip dflags fd : FuncData} {stNoStanding : Stmt} {quNoStanding : Str} {msNoStanding : Expr} {stNoBook : Stmt} {quNoBook : Str} {msNoBook : Expr} {stNoDeed : Stmt} {quNoDeed : Str} {msNoDeed : Expr} {stNoTurning : Stmt} {quNoTurning : Str} {msNoTurning : Expr} {stBarred : Stmt} {quBarred : Str} {msBarred : Expr} {stTooMany : Stmt} {quTooMany : Str} {msTooMany : Expr} {stFew : Stmt} {quFew : Str} {msFew : Expr} {stNoPlan : Stmt} {quNoPlan : Str} {msNoPlan : Expr} {stNoName : Stmt} {quNoName : Str} {msNoName : Expr} {stFull : Stmt} {quFull : Str} {msFull : Expr} (F : Fun K "law" "law" sLaw f fd)
    (D__law_pot : Def P w K mg base 1 "_law_pot" ["script", "at"] (spPot K) fpot dpot) (D__law_dip : Def P w K mg base 1 "_law_dip" ["pot", "many"] spDip fdip ddip) (D__law_flags : Def P w K mg base 1 "_law_flags" ["e"] (spFlags K [dNoStanding, dNoBook, dNoDeed, dNoTurning, dNotEven, dNoRound, dNoPair, dBarred, dTooMany, dFew, dNoPlan, dNoName, dFull] dStrideError) fflags dflags)
    (T_NoStanding : SupTxt P K stNoStanding quNoStanding "at" msNoStanding dNoStanding iNoStanding jNoStanding kNoStanding) (tx_NoStanding : SupText stNoStanding "at" msNoStanding) (mx_NoStanding : MsgOk P w msNoStanding "at" okInt)
    (T_NoBook : SupTxt P K stNoBook quNoBook "at" msNoBook dNoBook iNoBook jNoBook kNoBook) (tx_NoBook : SupText stNoBook "at" msNoBook) (mx_NoBook : MsgOk P w msNoBook "at" okInt)
    (T_NoDeed : SupTxt P K stNoDeed quNoDeed "at" msNoDeed dNoDeed iNoDeed jNoDeed kNoDeed) (tx_NoDeed : SupText stNoDeed "at" msNoDeed) (mx_NoDeed : MsgOk P w msNoDeed "at" okInt)
    (T_NoTurning : SupTxt P K stNoTurning quNoTurning "at" msNoTurning dNoTurning iNoTurning jNoTurning kNoTurning) (tx_NoTurning : SupText stNoTurning "at" msNoTurning) (mx_NoTurning : MsgOk P w msNoTurning "at" okInt)
    (T_Barred : SupTxt P K stBarred quBarred "paper" msBarred dBarred iBarred jBarred kBarred) (tx_Barred : SupText stBarred "paper" msBarred) (mx_Barred : MsgOk P w msBarred "paper" (fun _ => True))
    (T_TooMany : SupTxt P K stTooMany quTooMany "many" msTooMany dTooMany iTooMany jTooMany kTooMany) (tx_TooMany : SupText stTooMany "many" msTooMany) (mx_TooMany : MsgOk P w msTooMany "many" okInt)
    (T_Few : SupTxt P K stFew quFew "many" msFew dFew iFew jFew kFew) (tx_Few : SupText stFew "many" msFew) (mx_Few : MsgOk P w msFew "many" okInt)
    (T_NoPlan : SupTxt P K stNoPlan quNoPlan "row" msNoPlan dNoPlan iNoPlan jNoPlan kNoPlan) (tx_NoPlan : SupText stNoPlan "row" msNoPlan) (mx_NoPlan : MsgOk P w msNoPlan "row" okInt)
    (T_NoName : SupTxt P K stNoName quNoName "name" msNoName dNoName iNoName jNoName kNoName) (tx_NoName : SupText stNoName "name" msNoName) (mx_NoName : MsgOk P w msNoName "name" okText)
    (T_Full : SupTxt P K stFull quFull "over" msFull dFull iFull jFull kFull) (tx_Full : SupText stFull "over" msFull) (mx_Full : MsgOk P w msFull "over" okInt)
    (c_NoStanding : mg "NoStanding" = some (.ref dNoStanding)) (c_NoBook : mg "NoBook" = some (.ref dNoBook)) (c_NoDeed : mg "NoDeed" = some (.ref dNoDeed)) (c_NoTurning : mg "NoTurning" = some (.ref dNoTurning)) (c_NotEven : mg "NotEven" = some (.ref dNotEven)) (c_NoRound : mg "NoRound" = some (.ref dNoRound)) (c_NoPair : mg "NoPair" = some (.ref dNoPair)) (c_Barred : mg "Barred" = some (.ref dBarred)) (c_TooMany : mg "TooMany" = some (.ref dTooMany)) (c_Few : mg "Few" = some (.ref dFew)) (c_NoPlan : mg "NoPlan" = some (.ref dNoPlan)) (c_NoName : mg "NoName" = some (.ref dNoName)) (c_Full : mg "Full" = some (.ref dFull)) (c_StrideError : mg "StrideError" = some (.ref dStrideError)) (xi_NotEven : PySem.W.excIn K dNotEven [.type "ValueError", .type "Exception", .type "BaseException", .type "object"] "ValueError.__new__" = true) (kc_NotEven : PySem.W.keepIn K (.ref dNotEven) = true) (xi_NoRound : PySem.W.excIn K dNoRound [.type "ValueError", .type "Exception", .type "BaseException", .type "object"] "ValueError.__new__" = true) (kc_NoRound : PySem.W.keepIn K (.ref dNoRound) = true) (xi_NoPair : PySem.W.excIn K dNoPair [.type "ValueError", .type "Exception", .type "BaseException", .type "object"] "ValueError.__new__" = true) (kc_NoPair : PySem.W.keepIn K (.ref dNoPair) = true) (xi_StrideError : PySem.W.excIn K dStrideError [.type "ValueError", .type "Exception", .type "BaseException", .type "object"] "ValueError.__new__" = true) (kc_StrideError : PySem.W.keepIn K (.ref dStrideError) = true) 
    (sx_NotEven : StrTxt K dNotEven) (sx_NoRound : StrTxt K dNoRound) (sx_NoPair : StrTxt K dNoPair)
    (hB : IsTxt K dStrideError ∧ Kinds K dStrideError [dNoStanding, dNoBook, dNoDeed, dNoTurning, dNotEven, dNoRound, dNoPair, dBarred, dTooMany, dFew, dNoPlan, dNoName, dFull] (List.replicate 13 false) ∧ PySem.W.kitOne K (.ref dStrideError) (.ref dStrideError) = some true ∧ PySem.W.kitOne K (.ref dStrideError) (.type "ValueError") = some true)
    (hF : ∀ i C, ([dNoStanding, dNoBook, dNoDeed, dNoTurning, dNotEven, dNoRound, dNoPair, dBarred, dTooMany, dFew, dNoPlan, dNoName, dFull] : List Addr)[i]? = some C → Fam K [dNoStanding, dNoBook, dNoDeed, dNoTurning, dNotEven, dNoRound, dNoPair, dBarred, dTooMany, dFew, dNoPlan, dNoName, dFull] dStrideError C i)
    (m_range : mg "range" = none) (m_max : mg "max" = none) (m_min : mg "min" = none) (m_len : mg "len" = none) (m_str : mg "str" = none) :
    FnOk P w K mg base CX0 2 f fd ["script"] (spLaw K) := by
  refine F.ok scLaw (fun vs H Q E h => ?_) (fun cdv A outer s H vs Q E hr h => ?_)
  · obtain ⟨a, ns, rfl, _⟩ := h
    rfl
  · obtain ⟨a, ns, rfl, hS, hl, q⟩ := h
    refine ⟨_, (pss_cons (ps_for PassesOwn.never rfl (pi_range1 (by rfl) m_range (pa_cons (pe_callB (call_max2 rfl) (by rfl) m_max (by decide +kernel) (pa_cons pe_int (pa_cons (pe_callB (call_min2 rfl) (by rfl) m_min (by decide +kernel) (pa_cons pe_int (pa_cons (pe_callB call_len_seq (by rfl) m_len PySem.boot_len (pa_cons (pv 0) pa_nil)) pa_nil))) pa_nil))) pa_nil)) (pg_name (i := 1) scLaw.nd rfl (by first | exact .inl rfl | exact .inr rfl)) (pss_cons (ps_set (i := 2) scLaw.nd rfl (by first | exact .inl rfl | exact .inr rfl) (pe_call D__law_pot.ok (hr.mono (by decide)) (by rfl) D__law_pot.g D__law_pot.kp D__law_pot.b .nil pass0 (pa_cons (pv 0) (pa_cons (pv 1) pa_nil))))
      (pss_cons (ps_set (i := 3) scLaw.nd rfl (by first | exact .inl rfl | exact .inr rfl) (pe_call D__law_dip.ok (hr.mono (by decide)) (by rfl) D__law_dip.g D__law_dip.kp D__law_dip.b .nil pass0 (pa_cons (pv 2) (pa_cons (pe_op op_pow pe_int pe_int) pa_nil))))
      (pss_cons (ps_set (i := 4) scLaw.nd rfl (by first | exact .inl rfl | exact .inr rfl) pe_str)
      (pss_cons (ps_set (i := 5) scLaw.nd rfl (by first | exact .inl rfl | exact .inr rfl) (pe_join pe_str (pe_lc (own := [("k", 6)]) (g := gName 6) (tt := tYes) rfl scLaw.nd (pi_range1 (by rfl) m_range (pa_cons (pe_call D__law_dip.ok (hr.mono (by decide)) (by rfl) D__law_dip.g D__law_dip.kp D__law_dip.b .nil pass0 (pa_cons (pv 2) (pa_cons pe_int pa_nil))) pa_nil)) (blkOk_by (own := [("k", 6)]) (N := ["script", "at", "pot", "number", "signs", "text", "k", "paper", "made", "j", "one"]) (sc := defScope sLaw) (by decide +kernel)) (fun _ _ _ _ _ => (pg_name (i := 6) scLaw.nd rfl (by first | exact .inl rfl | exact .inr rfl))) (fun _ _ _ _ _ => pts_nil) (fun _ _ _ _ _ => by exact (pe_ix ix_str (pv 4) (pe_call D__law_dip.ok (hr.mono (by decide)) (by rfl) D__law_dip.g D__law_dip.kp D__law_dip.b .nil pass0 (pa_cons (pv 2) (pa_cons (pe_callB call_len_str (by rfl) m_len PySem.boot_len (pa_cons (pv 4) pa_nil)) pa_nil))) (fun _ _ => rfl))))))
      (pss_cons (ps_set (i := 7) scLaw.nd rfl (by first | exact .inl rfl | exact .inr rfl) (pe_ix ix_list (pe_lst (pa_cons (pe_tup (pa_cons pe_str (pa_cons (pv 3) pa_nil))) (pa_cons (pe_tup (pa_cons pe_str (pa_cons (pe_tup (pa_cons (pv 3) (pa_cons (pe_op op_add (pv 3) pe_int) pa_nil))) pa_nil))) (pa_cons (pe_tup (pa_cons pe_str (pa_cons (pv 3) (pa_cons (pv 5) pa_nil)))) pa_nil)))) (pe_call D__law_dip.ok (hr.mono (by decide)) (by rfl) D__law_dip.g D__law_dip.kp D__law_dip.b .nil pass0 (pa_cons (pv 2) (pa_cons pe_int pa_nil))) (fun _ _ => rfl)))
      (pss_cons (ps_set (i := 8) scLaw.nd rfl (by first | exact .inl rfl | exact .inr rfl) (pe_lst (pa_cons (pe_sup T_NoStanding tx_NoStanding mx_NoStanding okI_rel c_NoStanding hr (pa_cons (pv 3) pa_nil)) (pa_cons (pe_sup T_NoBook tx_NoBook mx_NoBook okI_rel c_NoBook hr (pa_cons (pv 3) pa_nil)) (pa_cons (pe_sup T_NoDeed tx_NoDeed mx_NoDeed okI_rel c_NoDeed hr (pa_cons (pv 3) pa_nil)) (pa_cons (pe_sup T_NoTurning tx_NoTurning mx_NoTurning okI_rel c_NoTurning hr (pa_cons (pv 3) pa_nil)) (pa_cons (pe_exT PySem.F.excBase_ValueError xi_NotEven c_NotEven kc_NotEven (pa_cons (pv 5) pa_nil)) (pa_cons (pe_exT PySem.F.excBase_ValueError xi_NoRound c_NoRound kc_NoRound (pa_cons (pv 5) pa_nil)) pa_nil))))))))
      (pss_cons (ps_set (i := 8) scLaw.nd rfl (by first | exact .inl rfl | exact .inr rfl) (pe_op op_cat (pv 8) (pe_lst (pa_cons (pe_exT PySem.F.excBase_ValueError xi_NoPair c_NoPair kc_NoPair (pa_cons (pv 5) pa_nil)) (pa_cons (pe_sup T_Barred tx_Barred mx_Barred okAny_rel c_Barred hr (pa_cons (pv 7) pa_nil)) (pa_cons (pe_sup T_TooMany tx_TooMany mx_TooMany okI_rel c_TooMany hr (pa_cons (pv 3) pa_nil)) (pa_cons (pe_sup T_Few tx_Few mx_Few okI_rel c_Few hr (pa_cons (pv 3) pa_nil)) (pa_cons (pe_sup T_NoPlan tx_NoPlan mx_NoPlan okI_rel c_NoPlan hr (pa_cons (pv 3) pa_nil)) (pa_cons (pe_sup T_NoName tx_NoName mx_NoName okTx_rel c_NoName hr (pa_cons (pv 5) pa_nil)) pa_nil)))))))))
      (pss_cons (ps_expr (pe_bm PySem.F.plainAttrs_list PySem.F.slot_list_append PySem.F.type_list_append mt_append (pv 8) (pa_cons (pe_sup T_Full tx_Full mx_Full okI_rel c_Full hr (pa_cons (pv 3) pa_nil)) pa_nil)))
      (pss_cons (ps_if (pt_cmpR (op_neD hr.units) (pe_lc (own := [("k", 6)]) (g := gName 6) (tt := tYes) rfl scLaw.nd (pi_range1 (by rfl) m_range (pa_cons pe_int pa_nil)) (blkOk_by (own := [("k", 6)]) (N := ["script", "at", "pot", "number", "signs", "text", "k", "paper", "made", "j", "one"]) (sc := defScope sLaw) (by decide +kernel)) (fun _ _ _ _ _ => (pg_name (i := 6) scLaw.nd rfl (by first | exact .inl rfl | exact .inr rfl))) (fun _ _ _ _ _ => pts_nil) (fun _ _ _ _ _ => by exact (pe_lc (own := [("j", 9)]) (g := gName 9) (tt := tYes) rfl scLaw.nd (pi_range1 (by rfl) m_range (pa_cons pe_int pa_nil)) (blkOk_by (own := [("j", 9)]) (N := ["script", "at", "pot", "number", "signs", "text", "k", "paper", "made", "j", "one"]) (sc := scK) (by decide +kernel)) (fun _ _ _ _ _ => (pg_name (i := 9) scLaw.nd rfl (by first | exact .inl rfl | exact .inr rfl))) (fun _ _ _ _ _ => pts_nil) (fun _ _ _ _ _ => by exact (pe_cmpR op_eq (pv 6) (pv 9) (nomark _)))))) (pe_lc (own := [("one", 10)]) (g := gName 10) (tt := tYes) rfl scLaw.nd (pi_list (pv 8)) (blkOk_by (own := [("one", 10)]) (N := ["script", "at", "pot", "number", "signs", "text", "k", "paper", "made", "j", "one"]) (sc := defScope sLaw) (by decide +kernel)) (fun _ _ _ _ _ => (pg_name (i := 10) scLaw.nd rfl (by first | exact .inl rfl | exact .inr rfl))) (fun _ _ _ _ _ => pts_nil) (fun _ _ _ _ _ => by exact (pe_call D__law_flags.ok (hr.mono (by decide)) (by rfl) D__law_flags.g D__law_flags.kp D__law_flags.b .nil pass0 (pa_cons (pv 10) pa_nil)))) (nomark _)) (pss_one (ps_ret pe_bl)) pss_nil)
      (pss_cons (ps_if (PW.pt (pw_or (pt_cmpR (op_neD hr.units) (pe_lc (own := [("one", 10)]) (g := gName 10) (tt := tYes) rfl scLaw.nd (pi_list (pe_slice sl_list (pv 8) po_none (po_some pe_int))) (blkOk_by (own := [("one", 10)]) (N := ["script", "at", "pot", "number", "signs", "text", "k", "paper", "made", "j", "one"]) (sc := defScope sLaw) (by decide +kernel)) (fun _ _ _ _ _ => (pg_name (i := 10) scLaw.nd rfl (by first | exact .inl rfl | exact .inr rfl))) (fun _ _ _ _ _ => pts_nil) (fun _ _ _ _ _ => by exact (pe_fldV (K := K) rfl (pv 10)))) (pe_op op_rep (pe_lst (pa_cons (pv 3) pa_nil)) pe_int) (nomark _)) (pw_or1 (pt_cmpR (op_neD hr.units) (pe_lc (own := [("one", 10)]) (g := gName 10) (tt := tYes) rfl scLaw.nd (pi_list (pe_slice sl_list (pv 8) (po_some pe_int) (po_some pe_int))) (blkOk_by (own := [("one", 10)]) (N := ["script", "at", "pot", "number", "signs", "text", "k", "paper", "made", "j", "one"]) (sc := defScope sLaw) (by decide +kernel)) (fun _ _ _ _ _ => (pg_name (i := 10) scLaw.nd rfl (by first | exact .inl rfl | exact .inr rfl))) (fun _ _ _ _ _ => pts_nil) (fun _ _ _ _ _ => by exact (pe_callTy (call_strEK (K := K) rfl (Nat.lt_of_le_of_lt (Nat.add_le_add_left (by decide) _) hr.units)) (by rfl) m_str (by decide +kernel) (pa_cons (pv 10) pa_nil)))) (pe_op op_rep (pe_lst (pa_cons (pv 5) pa_nil)) pe_int) (nomark _))))) (pss_one (ps_ret pe_bl)) pss_nil)
      (pss_cons (ps_if (PW.pt (pw_or (pt_cmpR (op_neD hr.units) (pe_fldV (K := K) rfl (pe_ix ix_list (pv 8) pe_int (fun _ _ => rfl))) (pv 7) (nomark _)) (pw_or (pt_cmpR op_ne (pe_fldV (K := K) rfl (pe_ix ix_list (pv 8) pe_int (fun _ _ => rfl))) (pv 3) (nomark _)) (pw_or (pt_cmpR op_ne (pe_fldV (K := K) rfl (pe_ix ix_list (pv 8) pe_int (fun _ _ => rfl))) (pv 3) (nomark _)) (pw_or1 (pt_cmpR op_ne (pe_fldV (K := K) rfl (pe_ix ix_list (pv 8) pe_int (fun _ _ => rfl))) (pv 3) (nomark _))))))) (pss_one (ps_ret pe_bl)) pss_nil)
      (pss_cons (ps_if (PW.pt (pw_or (pt_cmpR op_ne (pe_fldV (K := K) rfl (pe_ix ix_list (pv 8) pe_int (fun _ _ => rfl))) (pv 5) (nomark _)) (pw_or1 (pt_cmpR op_ne (pe_fldV (K := K) rfl (pe_ix ix_list (pv 8) pe_int (fun _ _ => rfl))) (pv 3) (nomark _))))) (pss_one (ps_ret pe_bl)) pss_nil)
      (pss_one (ps_if (pt_cmpR (op_neD hr.units) (pe_lc (own := [("one", 10)]) (g := gName 10) rfl scLaw.nd (pi_tup (pe_tup (pa_cons (pe_exT PySem.F.excBase_ValueError xi_StrideError c_StrideError kc_StrideError (pa_cons pe_str pa_nil)) pa_nil))) (blkOk_by (own := [("one", 10)]) (N := ["script", "at", "pot", "number", "signs", "text", "k", "paper", "made", "j", "one"]) (sc := defScope sLaw) (by decide +kernel)) (fun _ _ _ _ _ => (pg_name (i := 10) scLaw.nd rfl (by first | exact .inl rfl | exact .inr rfl))) (fun _ _ _ _ _ => pts_one (by exact (pt_cmpR (op_neDK (K := K) rfl hr.units) (pe_call D__law_flags.ok (hr.mono (by decide)) (by rfl) D__law_flags.g D__law_flags.kp D__law_flags.b .nil pass0 (pa_cons (pv 10) pa_nil)) (pe_op op_rep (pe_lst (pa_cons pe_bl pa_nil)) pe_int) (nomark _)))) (fun _ _ _ _ _ => by exact pe_int)) (pe_lst pa_nil) (nomark _)) (pss_one (ps_ret pe_bl)) pss_nil)))))))))))))))
      (pss_one (ps_ret pe_bl))), ?_⟩
    have hsz : 30000 ≤ sizeLine := by decide
    refine ⟨.ref a, rfl, a, _, rfl, .inl hS, 3, _, rfl, 1, _, rfl, _, rfl, by split <;> omega, by split <;> split <;> omega, ?_⟩
    generalize hn : (if (if ((ns.map V.int).length : Int) < 3 then ((ns.map V.int).length : Int) else 3) > 1 then (if ((ns.map V.int).length : Int) < 3 then ((ns.map V.int).length : Int) else 3) else 1) = n
    have n5 : n ≤ 3 := by
      rw [← hn]
      split <;> split <;> omega
    refine for_range (lo := 0) (n := n.toNat) (fun i σ H' => ∃ y1 y2 y3 y4 y5 y6 y7 y8 y9 y10, σ = [some (.ref a), y1, y2, y3, y4, y5, y6, y7, y8, y9, y10] ∧ Same H H') ⟨none, none, none, none, none, none, none, none, none, none, rfl, Same.refl H⟩ (fun i σ H' hi hI => ?_) (fun σ H' hI => q _)
    obtain ⟨y1, y2, y3, y4, y5, y6, y7, y8, y9, y10, rfl, S0⟩ := hI
    refine ⟨.ref a, rfl, .int (0 + (i : Int)), rfl, a, ns, i, by rw [Int.zero_add]; rfl, S0.seq hS, by omega, fun p ws0 np hw0 => ?_⟩
    have P1 : PotAt (upd H' p (.lst ws0)) p 0 := PotAt.upd hw0
    have Hp0 : H p = none := S0.free np
    have S1 := S0.trans (same_upd (o := .lst ws0) np)
    generalize (upd H' p (.lst ws0)) = H1 at *
    refine ⟨.ref p, rfl, 10, 12, rfl, rfl, ⟨by decide, by decide, by decide⟩, p, _, 0, rfl, by decide, by decide, P1, by decide, fun num w1 hn1 hv1 => ?_⟩
    have hnum : num < 10 ^ 12 := by
      have : (num : Int) < 10 ^ 12 := hn1
      omega
    have P2 : PotAt (upd H1 p (.lst w1)) p 1 := PotAt.upd hv1
    have B2 : But p H1 (upd H1 p (.lst w1)) := But.upd
    generalize (upd H1 p (.lst w1)) = H2 at *
    -- text
    refine ⟨⟨_, rfl⟩, .ref p, rfl, p, 21, 1, rfl, by decide, by decide, P2, by decide, fun m w2 hm hv2 => ?_⟩
    have P3 : PotAt (upd H2 p (.lst w2)) p 2 := PotAt.upd hv2
    have B3 : But p H1 (upd H2 p (.lst w2)) := B2.trans But.upd
    generalize (upd H2 p (.lst w2)) = H3 at *
    refine ⟨(m : Int), rfl, by omega, by omega, fun D nD => ?_⟩
    have Dp : D ≠ p := P3.ne nD
    refine lc_range (lo := 0) (n := ((m : Nat) : Int).toNat) (fun i H' => ∃ zs : List Str, H' D = some (.lst (zs.map V.str)) ∧ zs.length = i ∧ (∀ z ∈ zs, z.length ≤ 1 ∧ AscS z) ∧ PotAt H' p (2 + i) ∧ But p H3 H')
      ⟨[], upd_same, rfl, (fun z hz => nomatch hz), P3.updne (Ne.symm Dp), But.of_same (same_upd nD)⟩ (fun i H' hi hI => ?_) (fun H' hI => ?_)
    · obtain ⟨zs, e1, e2, e3, e4, e5⟩ := hI
      have hsl : sg57.length = 16 := by decide +kernel
      have hsl2 : sg57.cps.toList.length = 16 := by decide +kernel
      refine ⟨rfl, ?_⟩
      refine ⟨.str sg57, rfl, .ref p, rfl, .str sg57, rfl, sg57, rfl, by decide +kernel, p, (sg57.length : Nat), 2 + i, rfl, by decide +kernel, by decide +kernel, e4, by omega, fun r w3 hr hv3 => ?_⟩
      obtain ⟨c, hcc⟩ : ∃ c, sg57.cps.toList[r]? = some c := ⟨_, List.getElem?_eq_getElem (by omega)⟩
      have e1' : (upd H' p (.lst w3)) D = some (.lst (zs.map V.str)) := by rw [upd_ne Dp]; exact e1
      refine ⟨sg57, (r : Int), c, rfl, rfl, by decide +kernel, atI_nat hcc, _, e1', by rw [List.length_map]; omega, zs ++ [⟨#[c]⟩], ?_, ?_, fun z hz => ?_, ?_, ?_⟩
      · rw [upd_same, List.map_append]; rfl
      · rw [List.length_append, List.length_singleton, e2]
      · rcases List.mem_append.mp hz with hz | hz
        · exact e3 z hz
        · rw [List.mem_singleton.mp hz]
          exact ⟨Nat.le_refl _, AscS.one (sg57_asc c (List.mem_of_getElem? hcc))⟩
      · have : PotAt (upd H' p (.lst w3)) p (2 + i + 1) := PotAt.upd hv3
        exact this.updne (Ne.symm Dp)
      · exact (e5.trans But.upd).new nD
    · obtain ⟨zs, e1, e2, e3, e4, e5⟩ := hI
      rw [Int.toNat_natCast] at e2 e4
      refine ⟨Str.ofString "", D, zs, rfl, rfl, .inl (.inl (.inl e1)), join_fits (m := 1) (n := 21) (k := 0) (fun z hz => (e3 z hz).1) (by omega) (by decide), ?_⟩
      rw [TL.join_eq]
      have htl : (Str.join (Str.ofString "") zs).length ≤ 21 * 1 + 21 * 0 := join_le (fun z hz => (e3 z hz).1) (by omega) (by decide +kernel)
      have hta : AscS (Str.join (Str.ofString "") zs) := AscS.join (by unfold AscS; decide +kernel) fun z hz => (e3 z hz).2
      generalize Str.join (Str.ofString "") zs = text at *
      have B4 := B3.trans e5
      obtain ⟨N, hN, P4⟩ : ∃ N, N ≤ 50 ∧ PotAt H' p N := ⟨_, by omega, e4⟩
      -- paper
      refine ⟨.int (num : Int), rfl, (by show 2 ≤ sizeLine; decide), fun t1 n1 => ?_⟩
      have f1 : (upd H' t1 (.tup [.str (Str.ofString "faces"), .int (num : Int)])) t1 = some (.tup [.str (Str.ofString "faces"), .int (num : Int)]) := upd_same
      have R1 := same_upd (o := .tup [.str (Str.ofString "faces"), .int (num : Int)]) n1
      generalize (upd H' t1 (.tup [.str (Str.ofString "faces"), .int (num : Int)])) = H4 at *
      refine ⟨.int (num : Int), rfl, .int (num : Int), rfl, (num : Int), 1, rfl, rfl, (by show 2 ≤ sizeLine; decide), fun t2 n2 => ?_⟩
      have f2 : (upd H4 t2 (.tup [.int (num : Int), .int ((num : Int) + 1)])) t2 = some (.tup [.int (num : Int), .int ((num : Int) + 1)]) := upd_same
      have R2 := same_upd (o := .tup [.int (num : Int), .int ((num : Int) + 1)]) n2
      generalize (upd H4 t2 (.tup [.int (num : Int), .int ((num : Int) + 1)])) = H5 at *
      refine ⟨(by show 2 ≤ sizeLine; decide), fun t3 n3 => ?_⟩
      have f3 : (upd H5 t3 (.tup [.str (Str.ofString "turns"), .ref t2])) t3 = some (.tup [.str (Str.ofString "turns"), .ref t2]) := upd_same
      have R3 := same_upd (o := .tup [.str (Str.ofString "turns"), .ref t2]) n3
      generalize (upd H5 t3 (.tup [.str (Str.ofString "turns"), .ref t2])) = H6 at *
      refine ⟨.int (num : Int), rfl, .str text, rfl, (by show 3 ≤ sizeLine; decide), fun t4 n4 => ?_⟩
      have f4 : (upd H6 t4 (.tup [.str (Str.ofString "lack"), .int (num : Int), .str text])) t4 = some (.tup [.str (Str.ofString "lack"), .int (num : Int), .str text]) := upd_same
      have R4 := same_upd (o := .tup [.str (Str.ofString "lack"), .int (num : Int), .str text]) n4
      generalize (upd H6 t4 (.tup [.str (Str.ofString "lack"), .int (num : Int), .str text])) = H7 at *
      refine ⟨(by show 3 ≤ sizeLine; decide), fun l1 n5 => ?_⟩
      have f5 : (upd H7 l1 (.lst [.ref t1, .ref t3, .ref t4])) l1 = some (.lst [.ref t1, .ref t3, .ref t4]) := upd_same
      have R5 := same_upd (o := .lst [.ref t1, .ref t3, .ref t4]) n5
      generalize (upd H7 l1 (.lst [.ref t1, .ref t3, .ref t4])) = H8 at *
      have RA := (((R1.trans R2).trans R3).trans R4).trans R5
      have P8 := P4.same RA
      have l1p : l1 ≠ p := (((((P4.same R1).same R2).same R3).same R4)).ne n5
      refine ⟨.ref p, rfl, p, 3, N, rfl, by decide, by decide, P8, by omega, fun r w4 hr4 hv4 => ?_⟩
      have Y1 : t1 ≠ p := P4.ne n1
      have Y2 : t2 ≠ p := (P4.same R1).ne n2
      have Y3 : t3 ≠ p := ((P4.same R1).same R2).ne n3
      have Y4 : t4 ≠ p := (((P4.same R1).same R2).same R3).ne n4
      have g1 := ((R2.trans R3).trans R4).trans R5 _ _ f1
      have g2 := (R3.trans R4).trans R5 _ _ f2
      have g3 := R4.trans R5 _ _ f3
      have g4 := R5 _ _ f4
      obtain ⟨pp, hpp, hpa⟩ : ∃ pp, atI ([.ref t1, .ref t3, .ref t4] : List V) (r : Int) = some (.ref pp) ∧ PaperAt (upd H8 p (.lst w4)) pp num text := by
        have h3 : r = 0 ∨ r = 1 ∨ r = 2 := by omega
        rcases h3 with rfl | rfl | rfl
        · exact ⟨t1, atI_nat (j := 0) rfl, .inl (by rw [upd_ne Y1]; exact g1)⟩
        · exact ⟨t3, atI_nat (j := 1) rfl, .inr (.inl ⟨t2, by rw [upd_ne Y3]; exact g3, by rw [upd_ne Y2]; exact g2⟩)⟩
        · exact ⟨t4, atI_nat (j := 2) rfl, .inr (.inr (by rw [upd_ne Y4]; exact g4))⟩
      have f5' : (upd H8 p (.lst w4)) l1 = some (.lst [.ref t1, .ref t3, .ref t4]) := by rw [upd_ne l1p]; exact f5
      have B10 : But p H1 (upd H8 p (.lst w4)) := (B4.trans (But.of_same RA)).trans But.upd
      generalize (upd H8 p (.lst w4)) = H10 at *
      refine ⟨l1, _, (r : Int), .ref pp, rfl, rfl, .inl (.inl f5'), hpp, ?_⟩
      have okn : okI (.int (num : Int)) := okI_nat (Nat.lt_trans hnum (by decide))
      have S10 : Same H10 H10 := Same.refl _
      -- made
      refine ⟨.int (num : Int), rfl, .int (num : Int), rfl, okn, fun d11 e11 hd11 he11 hne11 => ?_⟩
      have A11 := held_new (C := dNoStanding) (fld := "at") (v := .int (num : Int)) hd11 he11 hne11
      generalize (upd (upd H10 d11 (.xd [("at", .int (num : Int))])) e11 (ExK (.ref dNoStanding) (some d11) e11)) = H11 at *
      obtain ⟨A11, Z11⟩ := A11
      have S11 := S10.trans Z11
      refine ⟨.int (num : Int), rfl, .int (num : Int), rfl, okn, fun d12 e12 hd12 he12 hne12 => ?_⟩
      have A12 := held_new (C := dNoBook) (fld := "at") (v := .int (num : Int)) hd12 he12 hne12
      generalize (upd (upd H11 d12 (.xd [("at", .int (num : Int))])) e12 (ExK (.ref dNoBook) (some d12) e12)) = H12 at *
      obtain ⟨A12, Z12⟩ := A12
      have S12 := S11.trans Z12
      refine ⟨.int (num : Int), rfl, .int (num : Int), rfl, okn, fun d13 e13 hd13 he13 hne13 => ?_⟩
      have A13 := held_new (C := dNoDeed) (fld := "at") (v := .int (num : Int)) hd13 he13 hne13
      generalize (upd (upd H12 d13 (.xd [("at", .int (num : Int))])) e13 (ExK (.ref dNoDeed) (some d13) e13)) = H13 at *
      obtain ⟨A13, Z13⟩ := A13
      have S13 := S12.trans Z13
      refine ⟨.int (num : Int), rfl, .int (num : Int), rfl, okn, fun d14 e14 hd14 he14 hne14 => ?_⟩
      have A14 := held_new (C := dNoTurning) (fld := "at") (v := .int (num : Int)) hd14 he14 hne14
      generalize (upd (upd H13 d14 (.xd [("at", .int (num : Int))])) e14 (ExK (.ref dNoTurning) (some d14) e14)) = H14 at *
      obtain ⟨A14, Z14⟩ := A14
      have S14 := S13.trans Z14
      refine ⟨.str text, rfl, .str text, rfl, fun d15 e15 hd15 he15 hne15 => ?_⟩
      have A15 := text_new (C := dNotEven) (z := text) hd15 he15 hne15
      generalize (upd (upd H14 d15 (.tup [.str text])) e15 (ExT dNotEven d15 e15)) = H15 at *
      obtain ⟨A15, Z15⟩ := A15
      have S15 := S14.trans Z15
      refine ⟨.str text, rfl, .str text, rfl, fun d16 e16 hd16 he16 hne16 => ?_⟩
      have A16 := text_new (C := dNoRound) (z := text) hd16 he16 hne16
      generalize (upd (upd H15 d16 (.tup [.str text])) e16 (ExT dNoRound d16 e16)) = H16 at *
      obtain ⟨A16, Z16⟩ := A16
      have S16 := S15.trans Z16
      refine ⟨(by show 6 ≤ sizeLine; decide), fun q1 nq17 => ?_⟩
      have F17 : (upd H16 q1 (.lst [.ref e11, .ref e12, .ref e13, .ref e14, .ref e15, .ref e16])) q1 = some (.lst (([e11, e12, e13, e14, e15, e16] : List Addr).map V.ref)) := upd_same
      have Z17 := same_upd (o := .lst [.ref e11, .ref e12, .ref e13, .ref e14, .ref e15, .ref e16]) nq17
      generalize (upd H16 q1 (.lst [.ref e11, .ref e12, .ref e13, .ref e14, .ref e15, .ref e16])) = H17 at *
      have S17 := S16.trans Z17
      have F17' := F17
      refine ⟨.ref q1, rfl, ?_⟩
      refine ⟨.str text, rfl, .str text, rfl, fun d18 e18 hd18 he18 hne18 => ?_⟩
      have A18 := text_new (C := dNoPair) (z := text) hd18 he18 hne18
      generalize (upd (upd H17 d18 (.tup [.str text])) e18 (ExT dNoPair d18 e18)) = H18 at *
      obtain ⟨A18, Z18⟩ := A18
      have S18 := S17.trans Z18
      refine ⟨.ref pp, rfl, .ref pp, rfl, trivial, fun d19 e19 hd19 he19 hne19 => ?_⟩
      have A19 := held_new (C := dBarred) (fld := "paper") (v := .ref pp) hd19 he19 hne19
      generalize (upd (upd H18 d19 (.xd [("paper", .ref pp)])) e19 (ExK (.ref dBarred) (some d19) e19)) = H19 at *
      obtain ⟨A19, Z19⟩ := A19
      have S19 := S18.trans Z19
      refine ⟨.int (num : Int), rfl, .int (num : Int), rfl, okn, fun d20 e20 hd20 he20 hne20 => ?_⟩
      have A20 := held_new (C := dTooMany) (fld := "many") (v := .int (num : Int)) hd20 he20 hne20
      generalize (upd (upd H19 d20 (.xd [("many", .int (num : Int))])) e20 (ExK (.ref dTooMany) (some d20) e20)) = H20 at *
      obtain ⟨A20, Z20⟩ := A20
      have S20 := S19.trans Z20
      refine ⟨.int (num : Int), rfl, .int (num : Int), rfl, okn, fun d21 e21 hd21 he21 hne21 => ?_⟩
      have A21 := held_new (C := dFew) (fld := "many") (v := .int (num : Int)) hd21 he21 hne21
      generalize (upd (upd H20 d21 (.xd [("many", .int (num : Int))])) e21 (ExK (.ref dFew) (some d21) e21)) = H21 at *
      obtain ⟨A21, Z21⟩ := A21
      have S21 := S20.trans Z21
      refine ⟨.int (num : Int), rfl, .int (num : Int), rfl, okn, fun d22 e22 hd22 he22 hne22 => ?_⟩
      have A22 := held_new (C := dNoPlan) (fld := "row") (v := .int (num : Int)) hd22 he22 hne22
      generalize (upd (upd H21 d22 (.xd [("row", .int (num : Int))])) e22 (ExK (.ref dNoPlan) (some d22) e22)) = H22 at *
      obtain ⟨A22, Z22⟩ := A22
      have S22 := S21.trans Z22
      refine ⟨.str text, rfl, .str text, rfl, ⟨text, rfl, by omega⟩, fun d23 e23 hd23 he23 hne23 => ?_⟩
      have A23 := held_new (C := dNoName) (fld := "name") (v := .str text) hd23 he23 hne23
      generalize (upd (upd H22 d23 (.xd [("name", .str text)])) e23 (ExK (.ref dNoName) (some d23) e23)) = H23 at *
      obtain ⟨A23, Z23⟩ := A23
      have S23 := S22.trans Z23
      refine ⟨(by show 6 ≤ sizeLine; decide), fun q2 nq24 => ?_⟩
      have F24 : (upd H23 q2 (.lst [.ref e18, .ref e19, .ref e20, .ref e21, .ref e22, .ref e23])) q2 = some (.lst (([e18, e19, e20, e21, e22, e23] : List Addr).map V.ref)) := upd_same
      have Z24 := same_upd (o := .lst [.ref e18, .ref e19, .ref e20, .ref e21, .ref e22, .ref e23]) nq24
      generalize (upd H23 q2 (.lst [.ref e18, .ref e19, .ref e20, .ref e21, .ref e22, .ref e23])) = H24 at *
      have S24 := S23.trans Z24
      have F24' := ((((((Z18.trans Z19).trans Z20).trans Z21).trans Z22).trans Z23).trans Z24) _ _ F17
      refine ⟨q1, q2, _, _, rfl, rfl, F24', F24, (by rw [List.length_map, List.length_map]; show 12 ≤ sizeLine; decide), fun q3 nq25 => ?_⟩
      rw [← List.map_append]
      have F25 : (upd H24 q3 (.lst (([e11, e12, e13, e14, e15, e16] ++ [e18, e19, e20, e21, e22, e23]).map V.ref))) q3 = some (.lst (([e11, e12, e13, e14, e15, e16] ++ [e18, e19, e20, e21, e22, e23]).map V.ref)) := upd_same
      have Z25 := same_upd (o := .lst (([e11, e12, e13, e14, e15, e16] ++ [e18, e19, e20, e21, e22, e23]).map V.ref)) nq25
      generalize (upd H24 q3 (.lst (([e11, e12, e13, e14, e15, e16] ++ [e18, e19, e20, e21, e22, e23]).map V.ref))) = H25 at *
      have S25 := S24.trans Z25
      refine ⟨.ref q3, rfl, .inl ⟨rfl, _, .inl (.inl F25)⟩, ?_⟩
      refine ⟨.int (num : Int), rfl, .int (num : Int), rfl, okn, fun d26 e26 hd26 he26 hne26 => ?_⟩
      have A26 := held_new (C := dFull) (fld := "over") (v := .int (num : Int)) hd26 he26 hne26
      generalize (upd (upd H25 d26 (.xd [("over", .int (num : Int))])) e26 (ExK (.ref dFull) (some d26) e26)) = H26 at *
      obtain ⟨A26, Z26⟩ := A26
      have S26 := S25.trans Z26
      have F26 := Z26 _ _ F25
      refine ⟨q3, _, _, rfl, rfl, F26, (by rw [List.length_map]; show 12 < sizeLine; decide), ?_⟩
      have W27 : Same H24 (upd H26 q3 (.lst (([e11, e12, e13, e14, e15, e16] ++ [e18, e19, e20, e21, e22, e23]).map V.ref ++ [.ref e26]))) := same_new (Z25.trans Z26) nq25
      have F27 : (upd H26 q3 (.lst (([e11, e12, e13, e14, e15, e16] ++ [e18, e19, e20, e21, e22, e23]).map V.ref ++ [.ref e26]))) q3 = some (.lst (([e11, e12, e13, e14, e15, e16, e18, e19, e20, e21, e22, e23, e26] : List Addr).map V.ref)) := upd_same
      have A27 : HeldAt (upd H26 q3 (.lst (([e11, e12, e13, e14, e15, e16] ++ [e18, e19, e20, e21, e22, e23]).map V.ref ++ [.ref e26]))) e26 dFull "over" (.int (num : Int)) := by
        obtain ⟨d, x1, x2⟩ := A26
        have h1 : e26 ≠ q3 := fun z => by rw [z, F26] at x1; cases x1
        have h2 : d ≠ q3 := fun z => by rw [z, F26] at x2; cases x2
        exact ⟨d, by rw [upd_ne h1]; exact x1, by rw [upd_ne h2]; exact x2⟩
      generalize (upd H26 q3 (.lst (([e11, e12, e13, e14, e15, e16] ++ [e18, e19, e20, e21, e22, e23]).map V.ref ++ [.ref e26]))) = H27 at *
      have S27 := S24.trans W27
      have L23 := Z24
      have L22 := Z23.trans L23
      have L21 := Z22.trans L22
      have L20 := Z21.trans L21
      have L19 := Z20.trans L20
      have L18 := Z19.trans L19
      have L17 := Z18.trans L18
      have L16 := Z17.trans L17
      have L15 := Z16.trans L16
      have L14 := Z15.trans L15
      have L13 := Z14.trans L14
      have L12 := Z13.trans L13
      have L11 := Z12.trans L12
      have A11' := (A11.same L11).same W27
      have A12' := (A12.same L12).same W27
      have A13' := (A13.same L13).same W27
      have A14' := (A14.same L14).same W27
      have A15' := (A15.same L15).same W27
      have A16' := (A16.same L16).same W27
      have A18' := (A18.same L18).same W27
      have A19' := (A19.same L19).same W27
      have A20' := (A20.same L20).same W27
      have A21' := (A21.same L21).same W27
      have A22' := (A22.same L22).same W27
      have A23' := (A23.same L23).same W27
      have all : Paired (fun e C => IsE H27 e C) [e11, e12, e13, e14, e15, e16, e18, e19, e20, e21, e22, e23, e26] [dNoStanding, dNoBook, dNoDeed, dNoTurning, dNotEven, dNoRound, dNoPair, dBarred, dTooMany, dFew, dNoPlan, dNoName, dFull] := .cons A11'.is (.cons A12'.is (.cons A13'.is (.cons A14'.is (.cons A15'.is (.cons A16'.is (.cons A18'.is (.cons A19'.is (.cons A20'.is (.cons A21'.is (.cons A22'.is (.cons A23'.is (.cons A27.is .nil))))))))))))
      -- the flags that are due
      refine ⟨13, rfl, by decide, by decide, fun D1 nD1 => ?_⟩
      refine lc_range (lo := 0) (n := ((13 : Int)).toNat) (fun i H' => ∃ as : List Addr, H' D1 = some (.lst (as.map V.ref)) ∧ RowsAt H' as ((List.range i).map (rowB 15)) ∧ as.length = i ∧ (∀ a ∈ as, a ≠ D1) ∧ Same H27 H')
        ⟨[], upd_same, trivial, rfl, (fun a ha => nomatch ha), same_upd nD1⟩ (fun i H' hi hI => ?_) (fun H' hI => ?_)
      · obtain ⟨as, u1, u2, u3, u4, u5⟩ := hI
        have hi13 : i < 13 := hi
        refine ⟨rfl, ?_⟩
        refine ⟨15, rfl, by decide, by decide, fun D2 nD2 => ?_⟩
        have D12 : D2 ≠ D1 := fun z => by rw [z, u1] at nD2; cases nD2
        refine lc_range (lo := 0) (n := ((15 : Int)).toNat) (fun j H2 => H2 D2 = some (.lst ((rowB j i).map V.bl)) ∧ Same H' H2) ⟨upd_same, same_upd nD2⟩ (fun j H2 hj hJ => ?_) (fun H2 hJ => ?_)
        · obtain ⟨v1, v2⟩ := hJ
          have hj15 : j < 15 := hj
          refine ⟨rfl, .int (0 + (i : Int)), rfl, .int (0 + (j : Int)), rfl, rfl, _, v1, ?_, ?_, same_new v2 nD2⟩
          · have : (rowB j i).length = j := by unfold rowB; rw [List.length_map, List.length_range]
            rw [List.length_map]; omega
          · rw [upd_same, rowB_succ, List.map_append, dec_ints]; rfl
        · obtain ⟨v1, v2⟩ := hJ
          refine ⟨_, v2 _ _ u1, by rw [List.length_map]; omega, as ++ [D2], ?_, ?_, ?_, ?_, same_new (u5.trans v2) nD1⟩
          · rw [upd_same, List.map_append]; rfl
          · rw [List.range_succ, List.map_append]
            exact RowsAt.snoc (b := rowB 15 i) (by rw [upd_ne D12]; exact v1) ((u2.same v2).but But.upd u4)
          · rw [List.length_append, List.length_singleton, u3]
          · intro a ha
            rcases List.mem_append.mp ha with ha | ha
            · exact u4 a ha
            · rw [List.mem_singleton.mp ha]; exact D12
      · obtain ⟨as, u1, u2, u3, u4, u5⟩ := hI
        refine ⟨.ref q3, rfl, q3, rfl, ⟨_, .inl (.inl (u5 _ _ F27))⟩, fun D3 nD3 => ?_⟩
        refine lc_list (K := K) (a := q3) (xs := ([e11, e12, e13, e14, e15, e16, e18, e19, e20, e21, e22, e23, e26] : List Addr).map V.ref) (fun i H2 => ∃ bs' : List Addr, H2 D3 = some (.lst (bs'.map V.ref)) ∧ RowsAt H2 bs' ((List.range i).map (rowB 15)) ∧ bs'.length = i ∧ (∀ a ∈ bs', a ≠ D3) ∧ Same H' H2)
          ⟨[], upd_same, trivial, rfl, (fun a ha => nomatch ha), same_upd nD3⟩ (fun i H2 hi hI => ?_) (fun i y H2 hy hI => ?_) (fun H2 hI => ?_)
        · obtain ⟨bs', _, _, _, _, v5⟩ := hI
          exact .inl (.inl (v5 _ _ (u5 _ _ F27)))
        · obtain ⟨bs', v1, v2, v3, v4, v5⟩ := hI
          obtain ⟨e, he, rfl⟩ : ∃ e, ([e11, e12, e13, e14, e15, e16, e18, e19, e20, e21, e22, e23, e26] : List Addr)[i]? = some e ∧ y = V.ref e := by
            rw [List.getElem?_map] at hy
            cases h : ([e11, e12, e13, e14, e15, e16, e18, e19, e20, e21, e22, e23, e26] : List Addr)[i]? with
            | none => rw [h] at hy; cases hy
            | some c => rw [h] at hy; exact ⟨c, rfl, (Option.some.inj hy).symm⟩
          have hi13 : i < 13 := (List.getElem?_eq_some_iff.mp he).1
          obtain ⟨C, hC, hE⟩ := L2.paired_get all he
          have fam := hF i C hC
          refine ⟨rfl, ?_⟩
          refine ⟨.ref e, rfl, e, C, rowB 13 i, rfl, (hE.same u5).same v5, fam.t, fam.k, fam.s, fam.v, fun H3 L S3 nL fL => ?_⟩
          rw [rowB_flags i hi13] at fL
          have LD3 : L ≠ D3 := fun z => by rw [z, v1] at nL; cases nL
          refine ⟨_, S3 _ _ v1, by rw [List.length_map]; omega, bs' ++ [L], ?_, ?_, ?_, ?_, same_new (v5.trans S3) nD3⟩
          · rw [upd_same, List.map_append]; rfl
          · rw [List.range_succ, List.map_append]
            exact RowsAt.snoc (b := rowB 15 i) (by rw [upd_ne LD3]; exact fL) ((v2.same S3).but But.upd v4)
          · rw [List.length_append, List.length_singleton, v3]
          · intro a ha
            rcases List.mem_append.mp ha with ha | ha
            · exact v4 a ha
            · rw [List.mem_singleton.mp ha]; exact LD3
        · obtain ⟨bs', v1, v2, v3, v4, v5⟩ := hI
          refine ⟨.list (((List.range 13).map (rowB 15)).map dBools), .list (((List.range 13).map (rowB 15)).map dBools), .lst (.inl (.inl (v5 _ _ u1))) (u2.same v5).data, .lst (.inl (.inl v1)) v2.data, by decide +kernel, by decide +kernel, _, rfl, iteN (by decide +kernel) ?_⟩
          have S28 := (S27.trans u5).trans v5
          have hLive := u5.trans v5
          clear u1 u2 u3 u4 v1 v2 v3 v4 nD1 nD3
          have fm : SqL K H2 q3 (([e11, e12, e13, e14, e15, e16, e18, e19, e20, e21, e22, e23, e26] : List Addr).map V.ref) := .inl (.inl (hLive _ _ F27))
          -- the first four's fields
          refine ⟨.ref q3, rfl, 4, rfl, q3, _, rfl, fm, fun qa nqa => ?_⟩
          have Fa : (upd H2 qa (.lst (cutV (([e11, e12, e13, e14, e15, e16, e18, e19, e20, e21, e22, e23, e26] : List Addr).map V.ref) none (some 4)))) qa = some (.lst (([e11, e12, e13, e14] : List Addr).map V.ref)) := upd_same
          have Sa' := same_upd (o := .lst (cutV (([e11, e12, e13, e14, e15, e16, e18, e19, e20, e21, e22, e23, e26] : List Addr).map V.ref) none (some 4))) nqa
          have Sa := hLive.trans (same_upd (o := .lst (cutV (([e11, e12, e13, e14, e15, e16, e18, e19, e20, e21, e22, e23, e26] : List Addr).map V.ref) none (some 4))) nqa)
          generalize (upd H2 qa (.lst (cutV (([e11, e12, e13, e14, e15, e16, e18, e19, e20, e21, e22, e23, e26] : List Addr).map V.ref) none (some 4)))) = Ha at *
          refine ⟨qa, rfl, ⟨_, .inl (.inl Fa)⟩, fun D4 nD4 => ?_⟩
          have all4 : Paired (fun e C => HeldAt H27 e C "at" (.int (num : Int)) ∧ FldTxt K C "at") [e11, e12, e13, e14] [dNoStanding, dNoBook, dNoDeed, dNoTurning] :=
            .cons ⟨A11', .of T_NoStanding⟩ (.cons ⟨A12', .of T_NoBook⟩ (.cons ⟨A13', .of T_NoDeed⟩ (.cons ⟨A14', .of T_NoTurning⟩ .nil)))
          refine lc_list (K := K) (a := qa) (xs := ([e11, e12, e13, e14] : List Addr).map V.ref) (fun i H3 => H3 D4 = some (.lst (List.replicate i (V.int (num : Int)))) ∧ Same Ha H3) ⟨upd_same, same_upd nD4⟩ (fun i H3 hi hI => .inl (.inl (hI.2 _ _ Fa))) (fun i y H3 hy hI => ?_) (fun H3 hI => ?_)
          · obtain ⟨w1, w2⟩ := hI
            obtain ⟨e, he, rfl⟩ : ∃ e, ([e11, e12, e13, e14] : List Addr)[i]? = some e ∧ y = V.ref e := by
              rw [List.getElem?_map] at hy
              cases h : ([e11, e12, e13, e14] : List Addr)[i]? with
              | none => rw [h] at hy; cases hy
              | some c => rw [h] at hy; exact ⟨c, rfl, (Option.some.inj hy).symm⟩
            have hi4 : i < 4 := (List.getElem?_eq_some_iff.mp he).1
            obtain ⟨C, hC, hH, hFt⟩ := L2.paired_get all4 he
            obtain ⟨d, x1, x2⟩ := hH.same ((u5.trans v5).trans (Sa'.trans w2))
            refine ⟨rfl, .ref e, rfl, e, C, d, .int (num : Int), rfl, hFt, x1, x2, _, w1, by rw [List.length_replicate]; omega, ?_, same_new w2 nD4⟩
            rw [upd_same, List.replicate_succ']
          · obtain ⟨w1, w2⟩ := hI
            refine ⟨.int (num : Int), rfl, (by show 1 ≤ sizeLine; decide), fun l5 nl5 => ?_⟩
            refine ⟨l5, 4, [.int (num : Int)], rfl, rfl, upd_same, by decide, by decide, (by show 4 ≤ sizeLine; decide), fun l6 nl6 => ?_⟩
            have w1' := same_upd (o := .lst (List.replicate (4 : Int).toNat [V.int (num : Int)]).flatten) nl6 _ _ (same_upd (o := .lst [V.int (num : Int)]) nl5 _ _ w1)
            have dk : DpAll K (upd (upd H3 l5 (.lst [V.int (num : Int)])) l6 (.lst (List.replicate (4 : Int).toNat [V.int (num : Int)]).flatten)) [V.int (num : Int), V.int (num : Int), V.int (num : Int), V.int (num : Int)] [.int num, .int num, .int num, .int num] := .cons (.int _) (.cons (.int _) (.cons (.int _) (.cons (.int _) .nil)))
            refine ⟨.list [.int num, .int num, .int num, .int num], .list [.int num, .int num, .int num, .int num], .lst (.inl (.inl w1')) dk, .lst (.inl (.inl upd_same)) dk, rfl, rfl, _, rfl, iteN (by rw [SeqAt.eqv_refl _ rfl]; rfl) ?_⟩
            have K1 := ((Sa'.trans w2).trans (same_upd (o := .lst [V.int (num : Int)]) nl5)).trans (same_upd (o := .lst (List.replicate (4 : Int).toNat [V.int (num : Int)]).flatten) nl6)
            generalize (upd (upd H3 l5 (.lst [V.int (num : Int)])) l6 (.lst (List.replicate (4 : Int).toNat [V.int (num : Int)]).flatten)) = H30 at *
            clear w1 w1' dk Fa nD4 nl5 nl6
            -- the three texts
            have fm2 : SqL K H30 q3 (([e11, e12, e13, e14, e15, e16, e18, e19, e20, e21, e22, e23, e26] : List Addr).map V.ref) := .inl (.inl (K1 _ _ (hLive _ _ F27)))
            refine ⟨.ref q3, rfl, 4, rfl, 7, rfl, q3, _, rfl, fm2, fun qb nqb => ?_⟩
            have Fb : (upd H30 qb (.lst (cutV (([e11, e12, e13, e14, e15, e16, e18, e19, e20, e21, e22, e23, e26] : List Addr).map V.ref) (some 4) (some 7)))) qb = some (.lst (([e15, e16, e18] : List Addr).map V.ref)) := upd_same
            have Sb' := same_upd (o := .lst (cutV (([e11, e12, e13, e14, e15, e16, e18, e19, e20, e21, e22, e23, e26] : List Addr).map V.ref) (some 4) (some 7))) nqb
            generalize (upd H30 qb (.lst (cutV (([e11, e12, e13, e14, e15, e16, e18, e19, e20, e21, e22, e23, e26] : List Addr).map V.ref) (some 4) (some 7)))) = Hb at *
            refine ⟨qb, rfl, ⟨_, .inl (.inl Fb)⟩, fun D5 nD5 => ?_⟩
            have all3 : Paired (fun e C => TextAt H27 e C text ∧ StrTxt K C) [e15, e16, e18] [dNotEven, dNoRound, dNoPair] := .cons ⟨A15', sx_NotEven⟩ (.cons ⟨A16', sx_NoRound⟩ (.cons ⟨A18', sx_NoPair⟩ .nil))
            refine lc_list (K := K) (a := qb) (xs := ([e15, e16, e18] : List Addr).map V.ref) (fun i H4 => H4 D5 = some (.lst (List.replicate i (V.str text))) ∧ Same Hb H4) ⟨upd_same, same_upd nD5⟩ (fun i H4 hi hI => .inl (.inl (hI.2 _ _ Fb))) (fun i y H4 hy hI => ?_) (fun H4 hI => ?_)
            · obtain ⟨w1, w4⟩ := hI
              obtain ⟨e, he, rfl⟩ : ∃ e, ([e15, e16, e18] : List Addr)[i]? = some e ∧ y = V.ref e := by
                rw [List.getElem?_map] at hy
                cases h : ([e15, e16, e18] : List Addr)[i]? with
                | none => rw [h] at hy; cases hy
                | some c => rw [h] at hy; exact ⟨c, rfl, (Option.some.inj hy).symm⟩
              have hi4 : i < 3 := (List.getElem?_eq_some_iff.mp he).1
              obtain ⟨C, hC, hH, hFt⟩ := L2.paired_get all3 he
              obtain ⟨t, x1, x2⟩ := hH.same ((hLive.trans K1).trans (Sb'.trans w4))
              refine ⟨rfl, .ref e, rfl, e, C, t, text, rfl, x1, x2, hFt.1, hFt.2, _, w1, by rw [List.length_replicate]; omega, ?_, same_new w4 nD5⟩
              rw [upd_same, List.replicate_succ']
            · obtain ⟨w1, w4⟩ := hI
              refine ⟨.str text, rfl, (by show 1 ≤ sizeLine; decide), fun l5 nl5 => ?_⟩
              refine ⟨l5, 3, [.str text], rfl, rfl, upd_same, by decide, by decide, (by show 3 ≤ sizeLine; decide), fun l6 nl6 => ?_⟩
              have w1' := same_upd (o := .lst (List.replicate (3 : Int).toNat [V.str text]).flatten) nl6 _ _ (same_upd (o := .lst [V.str text]) nl5 _ _ w1)
              have dk : DpAll K (upd (upd H4 l5 (.lst [V.str text])) l6 (.lst (List.replicate (3 : Int).toNat [V.str text]).flatten)) [V.str text, V.str text, V.str text] [.str text, .str text, .str text] := .cons (.str _) (.cons (.str _) (.cons (.str _) .nil))
              have cl : PyData.canLay0 (.list [.str text, .str text, .str text]) = true := by
                show (PyData.canLay0 (.str text) && (PyData.canLay0 (.str text) && (PyData.canLay0 (.str text) && true))) = true
                rw [text_can hta]; rfl
              have sh : SeqAt.shaped (.list [.str text, .str text, .str text]) = true := by
                unfold SeqAt.shaped
                rw [cl]; rfl
              refine ⟨.list [.str text, .str text, .str text], .list [.str text, .str text, .str text], .lst (.inl (.inl w1')) dk, .lst (.inl (.inl upd_same)) dk, sh, sh, _, rfl, iteN (by rw [SeqAt.eqv_refl _ cl]; rfl) ?_⟩
              have K2 := (K1.trans (Sb'.trans w4)).trans ((same_upd (o := .lst [V.str text]) nl5).trans (same_upd (o := .lst (List.replicate (3 : Int).toNat [V.str text]).flatten) nl6))
              generalize (upd (upd H4 l5 (.lst [V.str text])) l6 (.lst (List.replicate (3 : Int).toNat [V.str text]).flatten)) = H40 at *
              clear w1 w1' dk Fb nD5 nl5 nl6
              have X40 := hLive.trans K2
              have F40 := X40 _ _ F27
              obtain ⟨g7, x7, y7⟩ := (A19'.same X40)
              obtain ⟨g8, x8, y8⟩ := (A20'.same X40)
              obtain ⟨g9, x9, y9⟩ := (A21'.same X40)
              obtain ⟨g10, x10, y10⟩ := (A22'.same X40)
              obtain ⟨g11, x11, y11⟩ := (A23'.same X40)
              obtain ⟨g12, x12, y12⟩ := (A27.same X40)
              obtain ⟨dP, dp1, dp2, dp3⟩ := paper_data (K := K) ((hpa.same S28).same K2) hta
              refine ⟨.ref q3, rfl, q3, _, 7, .ref e19, rfl, rfl, .inl (.inl F40), atI_nat (j := 7) rfl, e19, dBarred, g7, .ref pp, rfl, .of T_Barred, x7, y7, .ref pp, rfl, dP, dP, dp1, dp1, dp3, dp3, _, rfl, iteN (by rw [SeqAt.eqv_refl _ dp2]; rfl) ?_⟩
              refine ⟨.ref q3, rfl, q3, _, 8, .ref e20, rfl, rfl, .inl (.inl F40), atI_nat (j := 8) rfl, e20, dTooMany, g8, .int (num : Int), rfl, .of T_TooMany, x8, y8, .int (num : Int), rfl, rfl, _, rfl, iteN (by rw [decide_eq_true rfl]; rfl) ?_⟩
              refine ⟨.ref q3, rfl, q3, _, 9, .ref e21, rfl, rfl, .inl (.inl F40), atI_nat (j := 9) rfl, e21, dFew, g9, .int (num : Int), rfl, .of T_Few, x9, y9, .int (num : Int), rfl, rfl, _, rfl, iteN (by rw [decide_eq_true rfl]; rfl) ?_⟩
              refine ⟨.ref q3, rfl, q3, _, 10, .ref e22, rfl, rfl, .inl (.inl F40), atI_nat (j := 10) rfl, e22, dNoPlan, g10, .int (num : Int), rfl, .of T_NoPlan, x10, y10, .int (num : Int), rfl, rfl, _, rfl, iteN (by rw [decide_eq_true rfl]; rfl) ?_⟩
              refine ⟨.ref q3, rfl, q3, _, 11, .ref e23, rfl, rfl, .inl (.inl F40), atI_nat (j := 11) rfl, e23, dNoName, g11, .str text, rfl, .of T_NoName, x11, y11, .str text, rfl, rfl, _, rfl, iteN (by rw [decide_eq_true rfl]; rfl) ?_⟩
              refine ⟨.ref q3, rfl, q3, _, 12, .ref e26, rfl, rfl, .inl (.inl F40), atI_nat (j := 12) rfl, e26, dFull, g12, .int (num : Int), rfl, .of T_Full, x12, y12, .int (num : Int), rfl, rfl, _, rfl, iteN (by rw [decide_eq_true rfl]; rfl) ?_⟩
              -- the base class alone
              refine ⟨.str (Str.ofString "a"), rfl, fun t0 e0 ht0 he0 hne0 => ?_⟩
              have A50 := text_new (C := dStrideError) (z := Str.ofString "a") ht0 he0 hne0
              generalize (upd (upd H40 t0 (.tup [.str (Str.ofString "a")])) e0 (ExT dStrideError t0 e0)) = H50 at *
              obtain ⟨A50, Z50⟩ := A50
              refine ⟨(by show 1 ≤ sizeLine; decide), fun tp ntp => ?_⟩
              have ftp : (upd H50 tp (.tup [.ref e0])) tp = some (.tup [.ref e0]) := upd_same
              have Z51 := same_upd (o := .tup [.ref e0]) ntp
              generalize (upd H50 tp (.tup [.ref e0])) = H51 at *
              refine ⟨tp, rfl, ⟨_, .inl (.inl ftp)⟩, fun D6 nD6 => ?_⟩
              refine lc_tup (K := K) (a := tp) (xs := [V.ref e0]) (fun i H5 => H5 D6 = some (.lst []) ∧ Same H51 H5) ⟨upd_same, same_upd nD6⟩ (fun i H5 hi hI => .inl (.inl (hI.2 _ _ ftp))) (fun i y H5 hy hI => ?_) (fun H5 hI => ?_)
              · obtain ⟨w1, w5⟩ := hI
                obtain rfl : y = V.ref e0 := by
                  have h0 : i < 1 := (List.getElem?_eq_some_iff.mp hy).1
                  obtain rfl : i = 0 := by omega
                  exact (Option.some.inj hy).symm
                refine ⟨rfl, ?_⟩
                refine ⟨.ref e0, rfl, e0, dStrideError, List.replicate 13 false, rfl, (A50.same (Z51.trans w5)).is, hB.1, hB.2.1, hB.2.2.1, hB.2.2.2, fun H6 L6 S6 nL6 fL6 => ?_⟩
                refine ⟨(by show 1 ≤ sizeLine; decide), fun l7 nl7 => ?_⟩
                refine ⟨l7, 15, [.bl false], rfl, rfl, upd_same, by decide, by decide, (by show 15 ≤ sizeLine; decide), fun l8 nl8 => ?_⟩
                have f6 := same_upd (o := .lst (List.replicate (15 : Int).toNat [V.bl false]).flatten) nl8 _ _ (same_upd (o := .lst [V.bl false]) nl7 _ _ fL6)
                refine ⟨dBools (List.replicate 15 false), dBools (List.replicate 15 false), .lst (.inl (.inl f6)) (bools_data (List.replicate 15 false)), .lst (.inl (.inl upd_same)) (bools_data (List.replicate 15 false)), by decide +kernel, by decide +kernel, _, rfl, iteN (by decide +kernel) ?_⟩
                have W6 := (S6.trans (same_upd (o := .lst [V.bl false]) nl7)).trans (same_upd (o := .lst (List.replicate (15 : Int).toNat [V.bl false]).flatten) nl8)
                exact ⟨W6 _ _ w1, w5.trans W6⟩
              · obtain ⟨w1, w5⟩ := hI
                refine ⟨Nat.zero_le _, fun E9 nE9 => ?_⟩
                have Z9 := same_upd (o := .lst []) nE9
                refine ⟨.list [], .list [], .lst (.inl (.inl (Z9 _ _ w1))) .nil, .lst (.inl (.inl upd_same)) .nil, rfl, rfl, _, rfl, iteN (by decide +kernel) ?_⟩
                exact ⟨_, _, _, _, _, _, _, _, _, _, rfl, same_but S1 Hp0 (B10.trans (But.of_same (((((S28.trans K2).trans Z50).trans Z51).trans w5).trans Z9)))⟩
end
abbrev sx_NoStanding : Stmt := inClass (topS 2) 0
def msg_NoStanding : PySem.Expr := match defBody sx_NoStanding with
  | (.Expr (.Call _ (m :: _) _ _) _) :: _ => m
  | _ => .Constant .none 0 ⟨0, 0, 0, 0⟩
theorem tx_NoStanding : SupText sx_NoStanding "at" msg_NoStanding := ⟨⟨_, _, _, _, _, _, _, _, _, rfl, _, fun _ => rfl⟩, fun _ => rfl, rfl, rfl, ⟨by decide +kernel, by decide +kernel, by decide +kernel, by decide +kernel, by decide +kernel⟩⟩
theorem mx_NoStanding {prog : Program} {w : World} : MsgOk prog w msg_NoStanding "at" okInt := msg_mid (by decide +kernel) (by decide +kernel) (by decide +kernel)
theorem sup_NoStanding_mk {prog : Program} {K : PySem.W.Frag} {C_NoStanding fI_NoStanding cc_NoStanding cda_NoStanding : Addr} {nm_NoStanding qn_NoStanding : Str} {N_NoStanding : Addr} {bs_NoStanding bm_NoStanding sub_NoStanding : List Value} {sn_NoStanding : List Str} {ab_NoStanding : Bool} {col_NoStanding : Option Bool} {dd_NoStanding : Option Addr} {k0_NoStanding k1_NoStanding k2_NoStanding k3_NoStanding k5_NoStanding : Option Value}
    {soc_NoStanding skV_NoStanding sdc_NoStanding spm_NoStanding sct_NoStanding ccl_NoStanding cl_NoStanding : Value} {sod_NoStanding san_NoStanding cdd_NoStanding cld_NoStanding : Option Addr} {sosl_NoStanding vs_NoStanding : Array (Option Value)} {va_NoStanding : Array Value} {csl_NoStanding : Array (Option Value)} {file_NoStanding : Str} {tf_NoStanding : Tok}
    (x_NoStanding : K.lookup C_NoStanding = some (excClassObj nm_NoStanding qn_NoStanding C_NoStanding N_NoStanding bs_NoStanding bm_NoStanding true sn_NoStanding sub_NoStanding ab_NoStanding col_NoStanding dd_NoStanding k0_NoStanding k1_NoStanding k2_NoStanding k3_NoStanding k5_NoStanding "ValueError.__new__"))
    (hbm_NoStanding : PySem.HandSPX.refsVE bm_NoStanding = true)
    (sa_NoStanding : PySem.W.findIn K (.ref C_NoStanding) "__setattr__" = some (some (.builtin "object.__setattr__")))
    (ga_NoStanding : PySem.W.findIn K (.ref C_NoStanding) "__getattribute__" = some (some (.builtin "BaseException.__getattribute__")))
    (gg_NoStanding : PySem.W.findIn K (.ref C_NoStanding) "__getattr__" = some none)
    (no_NoStanding : PySem.W.findIn K (.ref C_NoStanding) "at" = some none)
    (iC_NoStanding : PySem.W.findIn K (.ref C_NoStanding) "__init__" = some (some (.ref fI_NoStanding)))
    (tI_NoStanding : PySem.W.typeIn K (.ref fI_NoStanding) = some (.type "function"))
    (kC_NoStanding : PySem.W.keepIn K (.ref C_NoStanding) = true)
    (eC_NoStanding : PySem.W.subIn K (.ref C_NoStanding) (.type "BaseException") = some true)
    (vE_NoStanding : PySem.W.subIn K (.ref C_NoStanding) (.type "ValueError") = some true)
    (tC_NoStanding : PySem.W.typeIn K (.ref C_NoStanding) = some (.type "type"))
    (hD_NoStanding : PySem.W.hasDictIn K C_NoStanding = true)
    (cI_NoStanding : PySem.W.isClsIn K C_NoStanding = true)
    (sC_NoStanding : PySem.W.subIn K (.ref C_NoStanding) (.ref C_NoStanding) = some true)
    (op_NoStanding : PySem.W.nsIn K PySem.cStatics "thirdparty.any" = some none)
    (mr_NoStanding : PySem.W.mroIn K C_NoStanding (.ref C_NoStanding) = some true)
    (su_NoStanding : PySem.W.ks_superIn K C_NoStanding C_NoStanding "__init__" = some (some (.builtin "ValueError.__init__")))
    (ns_NoStanding : PySem.W.nsIn K mainGlobals "super" = some none)
    (fn_NoStanding : K.lookup fI_NoStanding = some ⟨soc_NoStanding, sod_NoStanding, .func (PySem.W.ksFn "__init__" "NoStanding.__init__" (defArgs sx_NoStanding) (defBody sx_NoStanding) (defScope sx_NoStanding) .none skV_NoStanding sdc_NoStanding spm_NoStanding san_NoStanding (.ref cda_NoStanding) sct_NoStanding cc_NoStanding), sosl_NoStanding⟩)
    (cd_NoStanding : PySem.W.codeIn K (.ref cda_NoStanding) "NoStanding.__init__" = true)
    (co_NoStanding : K.lookup cda_NoStanding = some ⟨ccl_NoStanding, cdd_NoStanding, .fields va_NoStanding, vs_NoStanding⟩)
    (vf_NoStanding : va_NoStanding[2]? = some (.str file_NoStanding tf_NoStanding))
    (fi_NoStanding : ((prog.main.file : Str) == file_NoStanding) = true)
    (ce_NoStanding : K.lookup cc_NoStanding = some ⟨cl_NoStanding, cld_NoStanding, .cell (some (.ref C_NoStanding)), csl_NoStanding⟩)
    (tp_NoStanding : (prog.main.scope.names.lookup ("super" : Str)).isSome = false)
    : SupTxt prog K sx_NoStanding "NoStanding.__init__" "at" msg_NoStanding C_NoStanding fI_NoStanding cc_NoStanding cda_NoStanding := ⟨⟨nm_NoStanding, qn_NoStanding, N_NoStanding, bs_NoStanding, bm_NoStanding, sn_NoStanding, sub_NoStanding, ab_NoStanding, col_NoStanding, dd_NoStanding, k0_NoStanding, k1_NoStanding, k2_NoStanding, k3_NoStanding, k5_NoStanding, x_NoStanding, hbm_NoStanding⟩, sa_NoStanding, ga_NoStanding, gg_NoStanding, no_NoStanding, iC_NoStanding, tI_NoStanding, kC_NoStanding, eC_NoStanding, vE_NoStanding, tC_NoStanding, hD_NoStanding, exm_self eC_NoStanding cI_NoStanding tC_NoStanding sC_NoStanding, op_NoStanding, mr_NoStanding, su_NoStanding, ns_NoStanding, ⟨soc_NoStanding, sod_NoStanding, skV_NoStanding, sdc_NoStanding, spm_NoStanding, san_NoStanding, sct_NoStanding, sosl_NoStanding, fn_NoStanding, fun _ _ _ => .of_eq rfl⟩, cd_NoStanding, ⟨ccl_NoStanding, cdd_NoStanding, va_NoStanding, vs_NoStanding, file_NoStanding, tf_NoStanding, co_NoStanding, vf_NoStanding, fi_NoStanding⟩, ⟨cl_NoStanding, cld_NoStanding, csl_NoStanding, ce_NoStanding⟩, tp_NoStanding⟩
abbrev sx_NoBook : Stmt := inClass (topS 3) 0
def msg_NoBook : PySem.Expr := match defBody sx_NoBook with
  | (.Expr (.Call _ (m :: _) _ _) _) :: _ => m
  | _ => .Constant .none 0 ⟨0, 0, 0, 0⟩
theorem tx_NoBook : SupText sx_NoBook "at" msg_NoBook := ⟨⟨_, _, _, _, _, _, _, _, _, rfl, _, fun _ => rfl⟩, fun _ => rfl, rfl, rfl, ⟨by decide +kernel, by decide +kernel, by decide +kernel, by decide +kernel, by decide +kernel⟩⟩
theorem mx_NoBook {prog : Program} {w : World} : MsgOk prog w msg_NoBook "at" okInt := msg_mid (by decide +kernel) (by decide +kernel) (by decide +kernel)
theorem sup_NoBook_mk {prog : Program} {K : PySem.W.Frag} {C_NoBook fI_NoBook cc_NoBook cda_NoBook : Addr} {nm_NoBook qn_NoBook : Str} {N_NoBook : Addr} {bs_NoBook bm_NoBook sub_NoBook : List Value} {sn_NoBook : List Str} {ab_NoBook : Bool} {col_NoBook : Option Bool} {dd_NoBook : Option Addr} {k0_NoBook k1_NoBook k2_NoBook k3_NoBook k5_NoBook : Option Value}
    {soc_NoBook skV_NoBook sdc_NoBook spm_NoBook sct_NoBook ccl_NoBook cl_NoBook : Value} {sod_NoBook san_NoBook cdd_NoBook cld_NoBook : Option Addr} {sosl_NoBook vs_NoBook : Array (Option Value)} {va_NoBook : Array Value} {csl_NoBook : Array (Option Value)} {file_NoBook : Str} {tf_NoBook : Tok}
    (x_NoBook : K.lookup C_NoBook = some (excClassObj nm_NoBook qn_NoBook C_NoBook N_NoBook bs_NoBook bm_NoBook true sn_NoBook sub_NoBook ab_NoBook col_NoBook dd_NoBook k0_NoBook k1_NoBook k2_NoBook k3_NoBook k5_NoBook "ValueError.__new__"))
    (hbm_NoBook : PySem.HandSPX.refsVE bm_NoBook = true)
    (sa_NoBook : PySem.W.findIn K (.ref C_NoBook) "__setattr__" = some (some (.builtin "object.__setattr__")))
    (ga_NoBook : PySem.W.findIn K (.ref C_NoBook) "__getattribute__" = some (some (.builtin "BaseException.__getattribute__")))
    (gg_NoBook : PySem.W.findIn K (.ref C_NoBook) "__getattr__" = some none)
    (no_NoBook : PySem.W.findIn K (.ref C_NoBook) "at" = some none)
    (iC_NoBook : PySem.W.findIn K (.ref C_NoBook) "__init__" = some (some (.ref fI_NoBook)))
    (tI_NoBook : PySem.W.typeIn K (.ref fI_NoBook) = some (.type "function"))
    (kC_NoBook : PySem.W.keepIn K (.ref C_NoBook) = true)
    (eC_NoBook : PySem.W.subIn K (.ref C_NoBook) (.type "BaseException") = some true)
    (vE_NoBook : PySem.W.subIn K (.ref C_NoBook) (.type "ValueError") = some true)
    (tC_NoBook : PySem.W.typeIn K (.ref C_NoBook) = some (.type "type"))
    (hD_NoBook : PySem.W.hasDictIn K C_NoBook = true)
    (cI_NoBook : PySem.W.isClsIn K C_NoBook = true)
    (sC_NoBook : PySem.W.subIn K (.ref C_NoBook) (.ref C_NoBook) = some true)
    (op_NoBook : PySem.W.nsIn K PySem.cStatics "thirdparty.any" = some none)
    (mr_NoBook : PySem.W.mroIn K C_NoBook (.ref C_NoBook) = some true)
    (su_NoBook : PySem.W.ks_superIn K C_NoBook C_NoBook "__init__" = some (some (.builtin "ValueError.__init__")))
    (ns_NoBook : PySem.W.nsIn K mainGlobals "super" = some none)
    (fn_NoBook : K.lookup fI_NoBook = some ⟨soc_NoBook, sod_NoBook, .func (PySem.W.ksFn "__init__" "NoBook.__init__" (defArgs sx_NoBook) (defBody sx_NoBook) (defScope sx_NoBook) .none skV_NoBook sdc_NoBook spm_NoBook san_NoBook (.ref cda_NoBook) sct_NoBook cc_NoBook), sosl_NoBook⟩)
    (cd_NoBook : PySem.W.codeIn K (.ref cda_NoBook) "NoBook.__init__" = true)
    (co_NoBook : K.lookup cda_NoBook = some ⟨ccl_NoBook, cdd_NoBook, .fields va_NoBook, vs_NoBook⟩)
    (vf_NoBook : va_NoBook[2]? = some (.str file_NoBook tf_NoBook))
    (fi_NoBook : ((prog.main.file : Str) == file_NoBook) = true)
    (ce_NoBook : K.lookup cc_NoBook = some ⟨cl_NoBook, cld_NoBook, .cell (some (.ref C_NoBook)), csl_NoBook⟩)
    (tp_NoBook : (prog.main.scope.names.lookup ("super" : Str)).isSome = false)
    : SupTxt prog K sx_NoBook "NoBook.__init__" "at" msg_NoBook C_NoBook fI_NoBook cc_NoBook cda_NoBook := ⟨⟨nm_NoBook, qn_NoBook, N_NoBook, bs_NoBook, bm_NoBook, sn_NoBook, sub_NoBook, ab_NoBook, col_NoBook, dd_NoBook, k0_NoBook, k1_NoBook, k2_NoBook, k3_NoBook, k5_NoBook, x_NoBook, hbm_NoBook⟩, sa_NoBook, ga_NoBook, gg_NoBook, no_NoBook, iC_NoBook, tI_NoBook, kC_NoBook, eC_NoBook, vE_NoBook, tC_NoBook, hD_NoBook, exm_self eC_NoBook cI_NoBook tC_NoBook sC_NoBook, op_NoBook, mr_NoBook, su_NoBook, ns_NoBook, ⟨soc_NoBook, sod_NoBook, skV_NoBook, sdc_NoBook, spm_NoBook, san_NoBook, sct_NoBook, sosl_NoBook, fn_NoBook, fun _ _ _ => .of_eq rfl⟩, cd_NoBook, ⟨ccl_NoBook, cdd_NoBook, va_NoBook, vs_NoBook, file_NoBook, tf_NoBook, co_NoBook, vf_NoBook, fi_NoBook⟩, ⟨cl_NoBook, cld_NoBook, csl_NoBook, ce_NoBook⟩, tp_NoBook⟩
abbrev sx_NoDeed : Stmt := inClass (topS 4) 0
def msg_NoDeed : PySem.Expr := match defBody sx_NoDeed with
  | (.Expr (.Call _ (m :: _) _ _) _) :: _ => m
  | _ => .Constant .none 0 ⟨0, 0, 0, 0⟩
theorem tx_NoDeed : SupText sx_NoDeed "at" msg_NoDeed := ⟨⟨_, _, _, _, _, _, _, _, _, rfl, _, fun _ => rfl⟩, fun _ => rfl, rfl, rfl, ⟨by decide +kernel, by decide +kernel, by decide +kernel, by decide +kernel, by decide +kernel⟩⟩
theorem mx_NoDeed {prog : Program} {w : World} : MsgOk prog w msg_NoDeed "at" okInt := msg_mid (by decide +kernel) (by decide +kernel) (by decide +kernel)
theorem sup_NoDeed_mk {prog : Program} {K : PySem.W.Frag} {C_NoDeed fI_NoDeed cc_NoDeed cda_NoDeed : Addr} {nm_NoDeed qn_NoDeed : Str} {N_NoDeed : Addr} {bs_NoDeed bm_NoDeed sub_NoDeed : List Value} {sn_NoDeed : List Str} {ab_NoDeed : Bool} {col_NoDeed : Option Bool} {dd_NoDeed : Option Addr} {k0_NoDeed k1_NoDeed k2_NoDeed k3_NoDeed k5_NoDeed : Option Value}
    {soc_NoDeed skV_NoDeed sdc_NoDeed spm_NoDeed sct_NoDeed ccl_NoDeed cl_NoDeed : Value} {sod_NoDeed san_NoDeed cdd_NoDeed cld_NoDeed : Option Addr} {sosl_NoDeed vs_NoDeed : Array (Option Value)} {va_NoDeed : Array Value} {csl_NoDeed : Array (Option Value)} {file_NoDeed : Str} {tf_NoDeed : Tok}
    (x_NoDeed : K.lookup C_NoDeed = some (excClassObj nm_NoDeed qn_NoDeed C_NoDeed N_NoDeed bs_NoDeed bm_NoDeed true sn_NoDeed sub_NoDeed ab_NoDeed col_NoDeed dd_NoDeed k0_NoDeed k1_NoDeed k2_NoDeed k3_NoDeed k5_NoDeed "ValueError.__new__"))
    (hbm_NoDeed : PySem.HandSPX.refsVE bm_NoDeed = true)
    (sa_NoDeed : PySem.W.findIn K (.ref C_NoDeed) "__setattr__" = some (some (.builtin "object.__setattr__")))
    (ga_NoDeed : PySem.W.findIn K (.ref C_NoDeed) "__getattribute__" = some (some (.builtin "BaseException.__getattribute__")))
    (gg_NoDeed : PySem.W.findIn K (.ref C_NoDeed) "__getattr__" = some none)
    (no_NoDeed : PySem.W.findIn K (.ref C_NoDeed) "at" = some none)
    (iC_NoDeed : PySem.W.findIn K (.ref C_NoDeed) "__init__" = some (some (.ref fI_NoDeed)))
    (tI_NoDeed : PySem.W.typeIn K (.ref fI_NoDeed) = some (.type "function"))
    (kC_NoDeed : PySem.W.keepIn K (.ref C_NoDeed) = true)
    (eC_NoDeed : PySem.W.subIn K (.ref C_NoDeed) (.type "BaseException") = some true)
    (vE_NoDeed : PySem.W.subIn K (.ref C_NoDeed) (.type "ValueError") = some true)
    (tC_NoDeed : PySem.W.typeIn K (.ref C_NoDeed) = some (.type "type"))
    (hD_NoDeed : PySem.W.hasDictIn K C_NoDeed = true)
    (cI_NoDeed : PySem.W.isClsIn K C_NoDeed = true)
    (sC_NoDeed : PySem.W.subIn K (.ref C_NoDeed) (.ref C_NoDeed) = some true)
    (op_NoDeed : PySem.W.nsIn K PySem.cStatics "thirdparty.any" = some none)
    (mr_NoDeed : PySem.W.mroIn K C_NoDeed (.ref C_NoDeed) = some true)
    (su_NoDeed : PySem.W.ks_superIn K C_NoDeed C_NoDeed "__init__" = some (some (.builtin "ValueError.__init__")))
    (ns_NoDeed : PySem.W.nsIn K mainGlobals "super" = some none)
    (fn_NoDeed : K.lookup fI_NoDeed = some ⟨soc_NoDeed, sod_NoDeed, .func (PySem.W.ksFn "__init__" "NoDeed.__init__" (defArgs sx_NoDeed) (defBody sx_NoDeed) (defScope sx_NoDeed) .none skV_NoDeed sdc_NoDeed spm_NoDeed san_NoDeed (.ref cda_NoDeed) sct_NoDeed cc_NoDeed), sosl_NoDeed⟩)
    (cd_NoDeed : PySem.W.codeIn K (.ref cda_NoDeed) "NoDeed.__init__" = true)
    (co_NoDeed : K.lookup cda_NoDeed = some ⟨ccl_NoDeed, cdd_NoDeed, .fields va_NoDeed, vs_NoDeed⟩)
    (vf_NoDeed : va_NoDeed[2]? = some (.str file_NoDeed tf_NoDeed))
    (fi_NoDeed : ((prog.main.file : Str) == file_NoDeed) = true)
    (ce_NoDeed : K.lookup cc_NoDeed = some ⟨cl_NoDeed, cld_NoDeed, .cell (some (.ref C_NoDeed)), csl_NoDeed⟩)
    (tp_NoDeed : (prog.main.scope.names.lookup ("super" : Str)).isSome = false)
    : SupTxt prog K sx_NoDeed "NoDeed.__init__" "at" msg_NoDeed C_NoDeed fI_NoDeed cc_NoDeed cda_NoDeed := ⟨⟨nm_NoDeed, qn_NoDeed, N_NoDeed, bs_NoDeed, bm_NoDeed, sn_NoDeed, sub_NoDeed, ab_NoDeed, col_NoDeed, dd_NoDeed, k0_NoDeed, k1_NoDeed, k2_NoDeed, k3_NoDeed, k5_NoDeed, x_NoDeed, hbm_NoDeed⟩, sa_NoDeed, ga_NoDeed, gg_NoDeed, no_NoDeed, iC_NoDeed, tI_NoDeed, kC_NoDeed, eC_NoDeed, vE_NoDeed, tC_NoDeed, hD_NoDeed, exm_self eC_NoDeed cI_NoDeed tC_NoDeed sC_NoDeed, op_NoDeed, mr_NoDeed, su_NoDeed, ns_NoDeed, ⟨soc_NoDeed, sod_NoDeed, skV_NoDeed, sdc_NoDeed, spm_NoDeed, san_NoDeed, sct_NoDeed, sosl_NoDeed, fn_NoDeed, fun _ _ _ => .of_eq rfl⟩, cd_NoDeed, ⟨ccl_NoDeed, cdd_NoDeed, va_NoDeed, vs_NoDeed, file_NoDeed, tf_NoDeed, co_NoDeed, vf_NoDeed, fi_NoDeed⟩, ⟨cl_NoDeed, cld_NoDeed, csl_NoDeed, ce_NoDeed⟩, tp_NoDeed⟩
abbrev sx_NoTurning : Stmt := inClass (topS 5) 0
def msg_NoTurning : PySem.Expr := match defBody sx_NoTurning with
  | (.Expr (.Call _ (m :: _) _ _) _) :: _ => m
  | _ => .Constant .none 0 ⟨0, 0, 0, 0⟩
theorem tx_NoTurning : SupText sx_NoTurning "at" msg_NoTurning := ⟨⟨_, _, _, _, _, _, _, _, _, rfl, _, fun _ => rfl⟩, fun _ => rfl, rfl, rfl, ⟨by decide +kernel, by decide +kernel, by decide +kernel, by decide +kernel, by decide +kernel⟩⟩
theorem mx_NoTurning {prog : Program} {w : World} : MsgOk prog w msg_NoTurning "at" okInt := msg_mid (by decide +kernel) (by decide +kernel) (by decide +kernel)
theorem sup_NoTurning_mk {prog : Program} {K : PySem.W.Frag} {C_NoTurning fI_NoTurning cc_NoTurning cda_NoTurning : Addr} {nm_NoTurning qn_NoTurning : Str} {N_NoTurning : Addr} {bs_NoTurning bm_NoTurning sub_NoTurning : List Value} {sn_NoTurning : List Str} {ab_NoTurning : Bool} {col_NoTurning : Option Bool} {dd_NoTurning : Option Addr} {k0_NoTurning k1_NoTurning k2_NoTurning k3_NoTurning k5_NoTurning : Option Value}
    {soc_NoTurning skV_NoTurning sdc_NoTurning spm_NoTurning sct_NoTurning ccl_NoTurning cl_NoTurning : Value} {sod_NoTurning san_NoTurning cdd_NoTurning cld_NoTurning : Option Addr} {sosl_NoTurning vs_NoTurning : Array (Option Value)} {va_NoTurning : Array Value} {csl_NoTurning : Array (Option Value)} {file_NoTurning : Str} {tf_NoTurning : Tok}
    (x_NoTurning : K.lookup C_NoTurning = some (excClassObj nm_NoTurning qn_NoTurning C_NoTurning N_NoTurning bs_NoTurning bm_NoTurning true sn_NoTurning sub_NoTurning ab_NoTurning col_NoTurning dd_NoTurning k0_NoTurning k1_NoTurning k2_NoTurning k3_NoTurning k5_NoTurning "ValueError.__new__"))
    (hbm_NoTurning : PySem.HandSPX.refsVE bm_NoTurning = true)
    (sa_NoTurning : PySem.W.findIn K (.ref C_NoTurning) "__setattr__" = some (some (.builtin "object.__setattr__")))
    (ga_NoTurning : PySem.W.findIn K (.ref C_NoTurning) "__getattribute__" = some (some (.builtin "BaseException.__getattribute__")))
    (gg_NoTurning : PySem.W.findIn K (.ref C_NoTurning) "__getattr__" = some none)
    (no_NoTurning : PySem.W.findIn K (.ref C_NoTurning) "at" = some none)
    (iC_NoTurning : PySem.W.findIn K (.ref C_NoTurning) "__init__" = some (some (.ref fI_NoTurning)))
    (tI_NoTurning : PySem.W.typeIn K (.ref fI_NoTurning) = some (.type "function"))
    (kC_NoTurning : PySem.W.keepIn K (.ref C_NoTurning) = true)
    (eC_NoTurning : PySem.W.subIn K (.ref C_NoTurning) (.type "BaseException") = some true)
    (vE_NoTurning : PySem.W.subIn K (.ref C_NoTurning) (.type "ValueError") = some true)
    (tC_NoTurning : PySem.W.typeIn K (.ref C_NoTurning) = some (.type "type"))
    (hD_NoTurning : PySem.W.hasDictIn K C_NoTurning = true)
    (cI_NoTurning : PySem.W.isClsIn K C_NoTurning = true)
    (sC_NoTurning : PySem.W.subIn K (.ref C_NoTurning) (.ref C_NoTurning) = some true)
    (op_NoTurning : PySem.W.nsIn K PySem.cStatics "thirdparty.any" = some none)
    (mr_NoTurning : PySem.W.mroIn K C_NoTurning (.ref C_NoTurning) = some true)
    (su_NoTurning : PySem.W.ks_superIn K C_NoTurning C_NoTurning "__init__" = some (some (.builtin "ValueError.__init__")))
    (ns_NoTurning : PySem.W.nsIn K mainGlobals "super" = some none)
    (fn_NoTurning : K.lookup fI_NoTurning = some ⟨soc_NoTurning, sod_NoTurning, .func (PySem.W.ksFn "__init__" "NoTurning.__init__" (defArgs sx_NoTurning) (defBody sx_NoTurning) (defScope sx_NoTurning) .none skV_NoTurning sdc_NoTurning spm_NoTurning san_NoTurning (.ref cda_NoTurning) sct_NoTurning cc_NoTurning), sosl_NoTurning⟩)
    (cd_NoTurning : PySem.W.codeIn K (.ref cda_NoTurning) "NoTurning.__init__" = true)
    (co_NoTurning : K.lookup cda_NoTurning = some ⟨ccl_NoTurning, cdd_NoTurning, .fields va_NoTurning, vs_NoTurning⟩)
    (vf_NoTurning : va_NoTurning[2]? = some (.str file_NoTurning tf_NoTurning))
    (fi_NoTurning : ((prog.main.file : Str) == file_NoTurning) = true)
    (ce_NoTurning : K.lookup cc_NoTurning = some ⟨cl_NoTurning, cld_NoTurning, .cell (some (.ref C_NoTurning)), csl_NoTurning⟩)
    (tp_NoTurning : (prog.main.scope.names.lookup ("super" : Str)).isSome = false)
    : SupTxt prog K sx_NoTurning "NoTurning.__init__" "at" msg_NoTurning C_NoTurning fI_NoTurning cc_NoTurning cda_NoTurning := ⟨⟨nm_NoTurning, qn_NoTurning, N_NoTurning, bs_NoTurning, bm_NoTurning, sn_NoTurning, sub_NoTurning, ab_NoTurning, col_NoTurning, dd_NoTurning, k0_NoTurning, k1_NoTurning, k2_NoTurning, k3_NoTurning, k5_NoTurning, x_NoTurning, hbm_NoTurning⟩, sa_NoTurning, ga_NoTurning, gg_NoTurning, no_NoTurning, iC_NoTurning, tI_NoTurning, kC_NoTurning, eC_NoTurning, vE_NoTurning, tC_NoTurning, hD_NoTurning, exm_self eC_NoTurning cI_NoTurning tC_NoTurning sC_NoTurning, op_NoTurning, mr_NoTurning, su_NoTurning, ns_NoTurning, ⟨soc_NoTurning, sod_NoTurning, skV_NoTurning, sdc_NoTurning, spm_NoTurning, san_NoTurning, sct_NoTurning, sosl_NoTurning, fn_NoTurning, fun _ _ _ => .of_eq rfl⟩, cd_NoTurning, ⟨ccl_NoTurning, cdd_NoTurning, va_NoTurning, vs_NoTurning, file_NoTurning, tf_NoTurning, co_NoTurning, vf_NoTurning, fi_NoTurning⟩, ⟨cl_NoTurning, cld_NoTurning, csl_NoTurning, ce_NoTurning⟩, tp_NoTurning⟩
abbrev sx_Barred : Stmt := inClass (topS 9) 0
def msg_Barred : PySem.Expr := match defBody sx_Barred with
  | (.Expr (.Call _ (m :: _) _ _) _) :: _ => m
  | _ => .Constant .none 0 ⟨0, 0, 0, 0⟩
theorem tx_Barred : SupText sx_Barred "paper" msg_Barred := ⟨⟨_, _, _, _, _, _, _, _, _, rfl, _, fun _ => rfl⟩, fun _ => rfl, rfl, rfl, ⟨by decide +kernel, by decide +kernel, by decide +kernel, by decide +kernel, by decide +kernel⟩⟩
theorem mx_Barred {prog : Program} {w : World} : MsgOk prog w msg_Barred "paper" (fun _ => True) := msg_const
theorem sup_Barred_mk {prog : Program} {K : PySem.W.Frag} {C_Barred fI_Barred cc_Barred cda_Barred : Addr} {nm_Barred qn_Barred : Str} {N_Barred : Addr} {bs_Barred bm_Barred sub_Barred : List Value} {sn_Barred : List Str} {ab_Barred : Bool} {col_Barred : Option Bool} {dd_Barred : Option Addr} {k0_Barred k1_Barred k2_Barred k3_Barred k5_Barred : Option Value}
    {soc_Barred skV_Barred sdc_Barred spm_Barred sct_Barred ccl_Barred cl_Barred : Value} {sod_Barred san_Barred cdd_Barred cld_Barred : Option Addr} {sosl_Barred vs_Barred : Array (Option Value)} {va_Barred : Array Value} {csl_Barred : Array (Option Value)} {file_Barred : Str} {tf_Barred : Tok}
    (x_Barred : K.lookup C_Barred = some (excClassObj nm_Barred qn_Barred C_Barred N_Barred bs_Barred bm_Barred true sn_Barred sub_Barred ab_Barred col_Barred dd_Barred k0_Barred k1_Barred k2_Barred k3_Barred k5_Barred "ValueError.__new__"))
    (hbm_Barred : PySem.HandSPX.refsVE bm_Barred = true)
    (sa_Barred : PySem.W.findIn K (.ref C_Barred) "__setattr__" = some (some (.builtin "object.__setattr__")))
    (ga_Barred : PySem.W.findIn K (.ref C_Barred) "__getattribute__" = some (some (.builtin "BaseException.__getattribute__")))
    (gg_Barred : PySem.W.findIn K (.ref C_Barred) "__getattr__" = some none)
    (no_Barred : PySem.W.findIn K (.ref C_Barred) "paper" = some none)
    (iC_Barred : PySem.W.findIn K (.ref C_Barred) "__init__" = some (some (.ref fI_Barred)))
    (tI_Barred : PySem.W.typeIn K (.ref fI_Barred) = some (.type "function"))
    (kC_Barred : PySem.W.keepIn K (.ref C_Barred) = true)
    (eC_Barred : PySem.W.subIn K (.ref C_Barred) (.type "BaseException") = some true)
    (vE_Barred : PySem.W.subIn K (.ref C_Barred) (.type "ValueError") = some true)
    (tC_Barred : PySem.W.typeIn K (.ref C_Barred) = some (.type "type"))
    (hD_Barred : PySem.W.hasDictIn K C_Barred = true)
    (cI_Barred : PySem.W.isClsIn K C_Barred = true)
    (sC_Barred : PySem.W.subIn K (.ref C_Barred) (.ref C_Barred) = some true)
    (op_Barred : PySem.W.nsIn K PySem.cStatics "thirdparty.any" = some none)
    (mr_Barred : PySem.W.mroIn K C_Barred (.ref C_Barred) = some true)
    (su_Barred : PySem.W.ks_superIn K C_Barred C_Barred "__init__" = some (some (.builtin "ValueError.__init__")))
    (ns_Barred : PySem.W.nsIn K mainGlobals "super" = some none)
    (fn_Barred : K.lookup fI_Barred = some ⟨soc_Barred, sod_Barred, .func (PySem.W.ksFn "__init__" "Barred.__init__" (defArgs sx_Barred) (defBody sx_Barred) (defScope sx_Barred) .none skV_Barred sdc_Barred spm_Barred san_Barred (.ref cda_Barred) sct_Barred cc_Barred), sosl_Barred⟩)
    (cd_Barred : PySem.W.codeIn K (.ref cda_Barred) "Barred.__init__" = true)
    (co_Barred : K.lookup cda_Barred = some ⟨ccl_Barred, cdd_Barred, .fields va_Barred, vs_Barred⟩)
    (vf_Barred : va_Barred[2]? = some (.str file_Barred tf_Barred))
    (fi_Barred : ((prog.main.file : Str) == file_Barred) = true)
    (ce_Barred : K.lookup cc_Barred = some ⟨cl_Barred, cld_Barred, .cell (some (.ref C_Barred)), csl_Barred⟩)
    (tp_Barred : (prog.main.scope.names.lookup ("super" : Str)).isSome = false)
    : SupTxt prog K sx_Barred "Barred.__init__" "paper" msg_Barred C_Barred fI_Barred cc_Barred cda_Barred := ⟨⟨nm_Barred, qn_Barred, N_Barred, bs_Barred, bm_Barred, sn_Barred, sub_Barred, ab_Barred, col_Barred, dd_Barred, k0_Barred, k1_Barred, k2_Barred, k3_Barred, k5_Barred, x_Barred, hbm_Barred⟩, sa_Barred, ga_Barred, gg_Barred, no_Barred, iC_Barred, tI_Barred, kC_Barred, eC_Barred, vE_Barred, tC_Barred, hD_Barred, exm_self eC_Barred cI_Barred tC_Barred sC_Barred, op_Barred, mr_Barred, su_Barred, ns_Barred, ⟨soc_Barred, sod_Barred, skV_Barred, sdc_Barred, spm_Barred, san_Barred, sct_Barred, sosl_Barred, fn_Barred, fun _ _ _ => .of_eq rfl⟩, cd_Barred, ⟨ccl_Barred, cdd_Barred, va_Barred, vs_Barred, file_Barred, tf_Barred, co_Barred, vf_Barred, fi_Barred⟩, ⟨cl_Barred, cld_Barred, csl_Barred, ce_Barred⟩, tp_Barred⟩
abbrev sx_TooMany : Stmt := inClass (topS 10) 0
def msg_TooMany : PySem.Expr := match defBody sx_TooMany with
  | (.Expr (.Call _ (m :: _) _ _) _) :: _ => m
  | _ => .Constant .none 0 ⟨0, 0, 0, 0⟩
theorem tx_TooMany : SupText sx_TooMany "many" msg_TooMany := ⟨⟨_, _, _, _, _, _, _, _, _, rfl, _, fun _ => rfl⟩, fun _ => rfl, rfl, rfl, ⟨by decide +kernel, by decide +kernel, by decide +kernel, by decide +kernel, by decide +kernel⟩⟩
theorem mx_TooMany {prog : Program} {w : World} : MsgOk prog w msg_TooMany "many" okInt := msg_pre (by decide +kernel) (by decide +kernel)
theorem sup_TooMany_mk {prog : Program} {K : PySem.W.Frag} {C_TooMany fI_TooMany cc_TooMany cda_TooMany : Addr} {nm_TooMany qn_TooMany : Str} {N_TooMany : Addr} {bs_TooMany bm_TooMany sub_TooMany : List Value} {sn_TooMany : List Str} {ab_TooMany : Bool} {col_TooMany : Option Bool} {dd_TooMany : Option Addr} {k0_TooMany k1_TooMany k2_TooMany k3_TooMany k5_TooMany : Option Value}
    {soc_TooMany skV_TooMany sdc_TooMany spm_TooMany sct_TooMany ccl_TooMany cl_TooMany : Value} {sod_TooMany san_TooMany cdd_TooMany cld_TooMany : Option Addr} {sosl_TooMany vs_TooMany : Array (Option Value)} {va_TooMany : Array Value} {csl_TooMany : Array (Option Value)} {file_TooMany : Str} {tf_TooMany : Tok}
    (x_TooMany : K.lookup C_TooMany = some (excClassObj nm_TooMany qn_TooMany C_TooMany N_TooMany bs_TooMany bm_TooMany true sn_TooMany sub_TooMany ab_TooMany col_TooMany dd_TooMany k0_TooMany k1_TooMany k2_TooMany k3_TooMany k5_TooMany "ValueError.__new__"))
    (hbm_TooMany : PySem.HandSPX.refsVE bm_TooMany = true)
    (sa_TooMany : PySem.W.findIn K (.ref C_TooMany) "__setattr__" = some (some (.builtin "object.__setattr__")))
    (ga_TooMany : PySem.W.findIn K (.ref C_TooMany) "__getattribute__" = some (some (.builtin "BaseException.__getattribute__")))
    (gg_TooMany : PySem.W.findIn K (.ref C_TooMany) "__getattr__" = some none)
    (no_TooMany : PySem.W.findIn K (.ref C_TooMany) "many" = some none)
    (iC_TooMany : PySem.W.findIn K (.ref C_TooMany) "__init__" = some (some (.ref fI_TooMany)))
    (tI_TooMany : PySem.W.typeIn K (.ref fI_TooMany) = some (.type "function"))
    (kC_TooMany : PySem.W.keepIn K (.ref C_TooMany) = true)
    (eC_TooMany : PySem.W.subIn K (.ref C_TooMany) (.type "BaseException") = some true)
    (vE_TooMany : PySem.W.subIn K (.ref C_TooMany) (.type "ValueError") = some true)
    (tC_TooMany : PySem.W.typeIn K (.ref C_TooMany) = some (.type "type"))
    (hD_TooMany : PySem.W.hasDictIn K C_TooMany = true)
    (cI_TooMany : PySem.W.isClsIn K C_TooMany = true)
    (sC_TooMany : PySem.W.subIn K (.ref C_TooMany) (.ref C_TooMany) = some true)
    (op_TooMany : PySem.W.nsIn K PySem.cStatics "thirdparty.any" = some none)
    (mr_TooMany : PySem.W.mroIn K C_TooMany (.ref C_TooMany) = some true)
    (su_TooMany : PySem.W.ks_superIn K C_TooMany C_TooMany "__init__" = some (some (.builtin "ValueError.__init__")))
    (ns_TooMany : PySem.W.nsIn K mainGlobals "super" = some none)
    (fn_TooMany : K.lookup fI_TooMany = some ⟨soc_TooMany, sod_TooMany, .func (PySem.W.ksFn "__init__" "TooMany.__init__" (defArgs sx_TooMany) (defBody sx_TooMany) (defScope sx_TooMany) .none skV_TooMany sdc_TooMany spm_TooMany san_TooMany (.ref cda_TooMany) sct_TooMany cc_TooMany), sosl_TooMany⟩)
    (cd_TooMany : PySem.W.codeIn K (.ref cda_TooMany) "TooMany.__init__" = true)
    (co_TooMany : K.lookup cda_TooMany = some ⟨ccl_TooMany, cdd_TooMany, .fields va_TooMany, vs_TooMany⟩)
    (vf_TooMany : va_TooMany[2]? = some (.str file_TooMany tf_TooMany))
    (fi_TooMany : ((prog.main.file : Str) == file_TooMany) = true)
    (ce_TooMany : K.lookup cc_TooMany = some ⟨cl_TooMany, cld_TooMany, .cell (some (.ref C_TooMany)), csl_TooMany⟩)
    (tp_TooMany : (prog.main.scope.names.lookup ("super" : Str)).isSome = false)
    : SupTxt prog K sx_TooMany "TooMany.__init__" "many" msg_TooMany C_TooMany fI_TooMany cc_TooMany cda_TooMany := ⟨⟨nm_TooMany, qn_TooMany, N_TooMany, bs_TooMany, bm_TooMany, sn_TooMany, sub_TooMany, ab_TooMany, col_TooMany, dd_TooMany, k0_TooMany, k1_TooMany, k2_TooMany, k3_TooMany, k5_TooMany, x_TooMany, hbm_TooMany⟩, sa_TooMany, ga_TooMany, gg_TooMany, no_TooMany, iC_TooMany, tI_TooMany, kC_TooMany, eC_TooMany, vE_TooMany, tC_TooMany, hD_TooMany, exm_self eC_TooMany cI_TooMany tC_TooMany sC_TooMany, op_TooMany, mr_TooMany, su_TooMany, ns_TooMany, ⟨soc_TooMany, sod_TooMany, skV_TooMany, sdc_TooMany, spm_TooMany, san_TooMany, sct_TooMany, sosl_TooMany, fn_TooMany, fun _ _ _ => .of_eq rfl⟩, cd_TooMany, ⟨ccl_TooMany, cdd_TooMany, va_TooMany, vs_TooMany, file_TooMany, tf_TooMany, co_TooMany, vf_TooMany, fi_TooMany⟩, ⟨cl_TooMany, cld_TooMany, csl_TooMany, ce_TooMany⟩, tp_TooMany⟩
abbrev sx_Few : Stmt := inClass (topS 11) 0
def msg_Few : PySem.Expr := match defBody sx_Few with
  | (.Expr (.Call _ (m :: _) _ _) _) :: _ => m
  | _ => .Constant .none 0 ⟨0, 0, 0, 0⟩
theorem tx_Few : SupText sx_Few "many" msg_Few := ⟨⟨_, _, _, _, _, _, _, _, _, rfl, _, fun _ => rfl⟩, fun _ => rfl, rfl, rfl, ⟨by decide +kernel, by decide +kernel, by decide +kernel, by decide +kernel, by decide +kernel⟩⟩
theorem mx_Few {prog : Program} {w : World} : MsgOk prog w msg_Few "many" okInt := msg_mid (by decide +kernel) (by decide +kernel) (by decide +kernel)
theorem sup_Few_mk {prog : Program} {K : PySem.W.Frag} {C_Few fI_Few cc_Few cda_Few : Addr} {nm_Few qn_Few : Str} {N_Few : Addr} {bs_Few bm_Few sub_Few : List Value} {sn_Few : List Str} {ab_Few : Bool} {col_Few : Option Bool} {dd_Few : Option Addr} {k0_Few k1_Few k2_Few k3_Few k5_Few : Option Value}
    {soc_Few skV_Few sdc_Few spm_Few sct_Few ccl_Few cl_Few : Value} {sod_Few san_Few cdd_Few cld_Few : Option Addr} {sosl_Few vs_Few : Array (Option Value)} {va_Few : Array Value} {csl_Few : Array (Option Value)} {file_Few : Str} {tf_Few : Tok}
    (x_Few : K.lookup C_Few = some (excClassObj nm_Few qn_Few C_Few N_Few bs_Few bm_Few true sn_Few sub_Few ab_Few col_Few dd_Few k0_Few k1_Few k2_Few k3_Few k5_Few "ValueError.__new__"))
    (hbm_Few : PySem.HandSPX.refsVE bm_Few = true)
    (sa_Few : PySem.W.findIn K (.ref C_Few) "__setattr__" = some (some (.builtin "object.__setattr__")))
    (ga_Few : PySem.W.findIn K (.ref C_Few) "__getattribute__" = some (some (.builtin "BaseException.__getattribute__")))
    (gg_Few : PySem.W.findIn K (.ref C_Few) "__getattr__" = some none)
    (no_Few : PySem.W.findIn K (.ref C_Few) "many" = some none)
    (iC_Few : PySem.W.findIn K (.ref C_Few) "__init__" = some (some (.ref fI_Few)))
    (tI_Few : PySem.W.typeIn K (.ref fI_Few) = some (.type "function"))
    (kC_Few : PySem.W.keepIn K (.ref C_Few) = true)
    (eC_Few : PySem.W.subIn K (.ref C_Few) (.type "BaseException") = some true)
    (vE_Few : PySem.W.subIn K (.ref C_Few) (.type "ValueError") = some true)
    (tC_Few : PySem.W.typeIn K (.ref C_Few) = some (.type "type"))
    (hD_Few : PySem.W.hasDictIn K C_Few = true)
    (cI_Few : PySem.W.isClsIn K C_Few = true)
    (sC_Few : PySem.W.subIn K (.ref C_Few) (.ref C_Few) = some true)
    (op_Few : PySem.W.nsIn K PySem.cStatics "thirdparty.any" = some none)
    (mr_Few : PySem.W.mroIn K C_Few (.ref C_Few) = some true)
    (su_Few : PySem.W.ks_superIn K C_Few C_Few "__init__" = some (some (.builtin "ValueError.__init__")))
    (ns_Few : PySem.W.nsIn K mainGlobals "super" = some none)
    (fn_Few : K.lookup fI_Few = some ⟨soc_Few, sod_Few, .func (PySem.W.ksFn "__init__" "Few.__init__" (defArgs sx_Few) (defBody sx_Few) (defScope sx_Few) .none skV_Few sdc_Few spm_Few san_Few (.ref cda_Few) sct_Few cc_Few), sosl_Few⟩)
    (cd_Few : PySem.W.codeIn K (.ref cda_Few) "Few.__init__" = true)
    (co_Few : K.lookup cda_Few = some ⟨ccl_Few, cdd_Few, .fields va_Few, vs_Few⟩)
    (vf_Few : va_Few[2]? = some (.str file_Few tf_Few))
    (fi_Few : ((prog.main.file : Str) == file_Few) = true)
    (ce_Few : K.lookup cc_Few = some ⟨cl_Few, cld_Few, .cell (some (.ref C_Few)), csl_Few⟩)
    (tp_Few : (prog.main.scope.names.lookup ("super" : Str)).isSome = false)
    : SupTxt prog K sx_Few "Few.__init__" "many" msg_Few C_Few fI_Few cc_Few cda_Few := ⟨⟨nm_Few, qn_Few, N_Few, bs_Few, bm_Few, sn_Few, sub_Few, ab_Few, col_Few, dd_Few, k0_Few, k1_Few, k2_Few, k3_Few, k5_Few, x_Few, hbm_Few⟩, sa_Few, ga_Few, gg_Few, no_Few, iC_Few, tI_Few, kC_Few, eC_Few, vE_Few, tC_Few, hD_Few, exm_self eC_Few cI_Few tC_Few sC_Few, op_Few, mr_Few, su_Few, ns_Few, ⟨soc_Few, sod_Few, skV_Few, sdc_Few, spm_Few, san_Few, sct_Few, sosl_Few, fn_Few, fun _ _ _ => .of_eq rfl⟩, cd_Few, ⟨ccl_Few, cdd_Few, va_Few, vs_Few, file_Few, tf_Few, co_Few, vf_Few, fi_Few⟩, ⟨cl_Few, cld_Few, csl_Few, ce_Few⟩, tp_Few⟩
abbrev sx_NoPlan : Stmt := inClass (topS 12) 0
def msg_NoPlan : PySem.Expr := match defBody sx_NoPlan with
  | (.Expr (.Call _ (m :: _) _ _) _) :: _ => m
  | _ => .Constant .none 0 ⟨0, 0, 0, 0⟩
theorem tx_NoPlan : SupText sx_NoPlan "row" msg_NoPlan := ⟨⟨_, _, _, _, _, _, _, _, _, rfl, _, fun _ => rfl⟩, fun _ => rfl, rfl, rfl, ⟨by decide +kernel, by decide +kernel, by decide +kernel, by decide +kernel, by decide +kernel⟩⟩
theorem mx_NoPlan {prog : Program} {w : World} : MsgOk prog w msg_NoPlan "row" okInt := msg_mid (by decide +kernel) (by decide +kernel) (by decide +kernel)
theorem sup_NoPlan_mk {prog : Program} {K : PySem.W.Frag} {C_NoPlan fI_NoPlan cc_NoPlan cda_NoPlan : Addr} {nm_NoPlan qn_NoPlan : Str} {N_NoPlan : Addr} {bs_NoPlan bm_NoPlan sub_NoPlan : List Value} {sn_NoPlan : List Str} {ab_NoPlan : Bool} {col_NoPlan : Option Bool} {dd_NoPlan : Option Addr} {k0_NoPlan k1_NoPlan k2_NoPlan k3_NoPlan k5_NoPlan : Option Value}
    {soc_NoPlan skV_NoPlan sdc_NoPlan spm_NoPlan sct_NoPlan ccl_NoPlan cl_NoPlan : Value} {sod_NoPlan san_NoPlan cdd_NoPlan cld_NoPlan : Option Addr} {sosl_NoPlan vs_NoPlan : Array (Option Value)} {va_NoPlan : Array Value} {csl_NoPlan : Array (Option Value)} {file_NoPlan : Str} {tf_NoPlan : Tok}
    (x_NoPlan : K.lookup C_NoPlan = some (excClassObj nm_NoPlan qn_NoPlan C_NoPlan N_NoPlan bs_NoPlan bm_NoPlan true sn_NoPlan sub_NoPlan ab_NoPlan col_NoPlan dd_NoPlan k0_NoPlan k1_NoPlan k2_NoPlan k3_NoPlan k5_NoPlan "ValueError.__new__"))
    (hbm_NoPlan : PySem.HandSPX.refsVE bm_NoPlan = true)
    (sa_NoPlan : PySem.W.findIn K (.ref C_NoPlan) "__setattr__" = some (some (.builtin "object.__setattr__")))
    (ga_NoPlan : PySem.W.findIn K (.ref C_NoPlan) "__getattribute__" = some (some (.builtin "BaseException.__getattribute__")))
    (gg_NoPlan : PySem.W.findIn K (.ref C_NoPlan) "__getattr__" = some none)
    (no_NoPlan : PySem.W.findIn K (.ref C_NoPlan) "row" = some none)
    (iC_NoPlan : PySem.W.findIn K (.ref C_NoPlan) "__init__" = some (some (.ref fI_NoPlan)))
    (tI_NoPlan : PySem.W.typeIn K (.ref fI_NoPlan) = some (.type "function"))
    (kC_NoPlan : PySem.W.keepIn K (.ref C_NoPlan) = true)
    (eC_NoPlan : PySem.W.subIn K (.ref C_NoPlan) (.type "BaseException") = some true)
    (vE_NoPlan : PySem.W.subIn K (.ref C_NoPlan) (.type "ValueError") = some true)
    (tC_NoPlan : PySem.W.typeIn K (.ref C_NoPlan) = some (.type "type"))
    (hD_NoPlan : PySem.W.hasDictIn K C_NoPlan = true)
    (cI_NoPlan : PySem.W.isClsIn K C_NoPlan = true)
    (sC_NoPlan : PySem.W.subIn K (.ref C_NoPlan) (.ref C_NoPlan) = some true)
    (op_NoPlan : PySem.W.nsIn K PySem.cStatics "thirdparty.any" = some none)
    (mr_NoPlan : PySem.W.mroIn K C_NoPlan (.ref C_NoPlan) = some true)
    (su_NoPlan : PySem.W.ks_superIn K C_NoPlan C_NoPlan "__init__" = some (some (.builtin "ValueError.__init__")))
    (ns_NoPlan : PySem.W.nsIn K mainGlobals "super" = some none)
    (fn_NoPlan : K.lookup fI_NoPlan = some ⟨soc_NoPlan, sod_NoPlan, .func (PySem.W.ksFn "__init__" "NoPlan.__init__" (defArgs sx_NoPlan) (defBody sx_NoPlan) (defScope sx_NoPlan) .none skV_NoPlan sdc_NoPlan spm_NoPlan san_NoPlan (.ref cda_NoPlan) sct_NoPlan cc_NoPlan), sosl_NoPlan⟩)
    (cd_NoPlan : PySem.W.codeIn K (.ref cda_NoPlan) "NoPlan.__init__" = true)
    (co_NoPlan : K.lookup cda_NoPlan = some ⟨ccl_NoPlan, cdd_NoPlan, .fields va_NoPlan, vs_NoPlan⟩)
    (vf_NoPlan : va_NoPlan[2]? = some (.str file_NoPlan tf_NoPlan))
    (fi_NoPlan : ((prog.main.file : Str) == file_NoPlan) = true)
    (ce_NoPlan : K.lookup cc_NoPlan = some ⟨cl_NoPlan, cld_NoPlan, .cell (some (.ref C_NoPlan)), csl_NoPlan⟩)
    (tp_NoPlan : (prog.main.scope.names.lookup ("super" : Str)).isSome = false)
    : SupTxt prog K sx_NoPlan "NoPlan.__init__" "row" msg_NoPlan C_NoPlan fI_NoPlan cc_NoPlan cda_NoPlan := ⟨⟨nm_NoPlan, qn_NoPlan, N_NoPlan, bs_NoPlan, bm_NoPlan, sn_NoPlan, sub_NoPlan, ab_NoPlan, col_NoPlan, dd_NoPlan, k0_NoPlan, k1_NoPlan, k2_NoPlan, k3_NoPlan, k5_NoPlan, x_NoPlan, hbm_NoPlan⟩, sa_NoPlan, ga_NoPlan, gg_NoPlan, no_NoPlan, iC_NoPlan, tI_NoPlan, kC_NoPlan, eC_NoPlan, vE_NoPlan, tC_NoPlan, hD_NoPlan, exm_self eC_NoPlan cI_NoPlan tC_NoPlan sC_NoPlan, op_NoPlan, mr_NoPlan, su_NoPlan, ns_NoPlan, ⟨soc_NoPlan, sod_NoPlan, skV_NoPlan, sdc_NoPlan, spm_NoPlan, san_NoPlan, sct_NoPlan, sosl_NoPlan, fn_NoPlan, fun _ _ _ => .of_eq rfl⟩, cd_NoPlan, ⟨ccl_NoPlan, cdd_NoPlan, va_NoPlan, vs_NoPlan, file_NoPlan, tf_NoPlan, co_NoPlan, vf_NoPlan, fi_NoPlan⟩, ⟨cl_NoPlan, cld_NoPlan, csl_NoPlan, ce_NoPlan⟩, tp_NoPlan⟩
abbrev sx_NoName : Stmt := inClass (topS 13) 0
def msg_NoName : PySem.Expr := match defBody sx_NoName with
  | (.Expr (.Call _ (m :: _) _ _) _) :: _ => m
  | _ => .Constant .none 0 ⟨0, 0, 0, 0⟩
theorem tx_NoName : SupText sx_NoName "name" msg_NoName := ⟨⟨_, _, _, _, _, _, _, _, _, rfl, _, fun _ => rfl⟩, fun _ => rfl, rfl, rfl, ⟨by decide +kernel, by decide +kernel, by decide +kernel, by decide +kernel, by decide +kernel⟩⟩
theorem mx_NoName {prog : Program} {w : World} : MsgOk prog w msg_NoName "name" okText := msg_postS (by decide +kernel) (by decide +kernel)
theorem sup_NoName_mk {prog : Program} {K : PySem.W.Frag} {C_NoName fI_NoName cc_NoName cda_NoName : Addr} {nm_NoName qn_NoName : Str} {N_NoName : Addr} {bs_NoName bm_NoName sub_NoName : List Value} {sn_NoName : List Str} {ab_NoName : Bool} {col_NoName : Option Bool} {dd_NoName : Option Addr} {k0_NoName k1_NoName k2_NoName k3_NoName k5_NoName : Option Value}
    {soc_NoName skV_NoName sdc_NoName spm_NoName sct_NoName ccl_NoName cl_NoName : Value} {sod_NoName san_NoName cdd_NoName cld_NoName : Option Addr} {sosl_NoName vs_NoName : Array (Option Value)} {va_NoName : Array Value} {csl_NoName : Array (Option Value)} {file_NoName : Str} {tf_NoName : Tok}
    (x_NoName : K.lookup C_NoName = some (excClassObj nm_NoName qn_NoName C_NoName N_NoName bs_NoName bm_NoName true sn_NoName sub_NoName ab_NoName col_NoName dd_NoName k0_NoName k1_NoName k2_NoName k3_NoName k5_NoName "ValueError.__new__"))
    (hbm_NoName : PySem.HandSPX.refsVE bm_NoName = true)
    (sa_NoName : PySem.W.findIn K (.ref C_NoName) "__setattr__" = some (some (.builtin "object.__setattr__")))
    (ga_NoName : PySem.W.findIn K (.ref C_NoName) "__getattribute__" = some (some (.builtin "BaseException.__getattribute__")))
    (gg_NoName : PySem.W.findIn K (.ref C_NoName) "__getattr__" = some none)
    (no_NoName : PySem.W.findIn K (.ref C_NoName) "name" = some none)
    (iC_NoName : PySem.W.findIn K (.ref C_NoName) "__init__" = some (some (.ref fI_NoName)))
    (tI_NoName : PySem.W.typeIn K (.ref fI_NoName) = some (.type "function"))
    (kC_NoName : PySem.W.keepIn K (.ref C_NoName) = true)
    (eC_NoName : PySem.W.subIn K (.ref C_NoName) (.type "BaseException") = some true)
    (vE_NoName : PySem.W.subIn K (.ref C_NoName) (.type "ValueError") = some true)
    (tC_NoName : PySem.W.typeIn K (.ref C_NoName) = some (.type "type"))
    (hD_NoName : PySem.W.hasDictIn K C_NoName = true)
    (cI_NoName : PySem.W.isClsIn K C_NoName = true)
    (sC_NoName : PySem.W.subIn K (.ref C_NoName) (.ref C_NoName) = some true)
    (op_NoName : PySem.W.nsIn K PySem.cStatics "thirdparty.any" = some none)
    (mr_NoName : PySem.W.mroIn K C_NoName (.ref C_NoName) = some true)
    (su_NoName : PySem.W.ks_superIn K C_NoName C_NoName "__init__" = some (some (.builtin "ValueError.__init__")))
    (ns_NoName : PySem.W.nsIn K mainGlobals "super" = some none)
    (fn_NoName : K.lookup fI_NoName = some ⟨soc_NoName, sod_NoName, .func (PySem.W.ksFn "__init__" "NoName.__init__" (defArgs sx_NoName) (defBody sx_NoName) (defScope sx_NoName) .none skV_NoName sdc_NoName spm_NoName san_NoName (.ref cda_NoName) sct_NoName cc_NoName), sosl_NoName⟩)
    (cd_NoName : PySem.W.codeIn K (.ref cda_NoName) "NoName.__init__" = true)
    (co_NoName : K.lookup cda_NoName = some ⟨ccl_NoName, cdd_NoName, .fields va_NoName, vs_NoName⟩)
    (vf_NoName : va_NoName[2]? = some (.str file_NoName tf_NoName))
    (fi_NoName : ((prog.main.file : Str) == file_NoName) = true)
    (ce_NoName : K.lookup cc_NoName = some ⟨cl_NoName, cld_NoName, .cell (some (.ref C_NoName)), csl_NoName⟩)
    (tp_NoName : (prog.main.scope.names.lookup ("super" : Str)).isSome = false)
    : SupTxt prog K sx_NoName "NoName.__init__" "name" msg_NoName C_NoName fI_NoName cc_NoName cda_NoName := ⟨⟨nm_NoName, qn_NoName, N_NoName, bs_NoName, bm_NoName, sn_NoName, sub_NoName, ab_NoName, col_NoName, dd_NoName, k0_NoName, k1_NoName, k2_NoName, k3_NoName, k5_NoName, x_NoName, hbm_NoName⟩, sa_NoName, ga_NoName, gg_NoName, no_NoName, iC_NoName, tI_NoName, kC_NoName, eC_NoName, vE_NoName, tC_NoName, hD_NoName, exm_self eC_NoName cI_NoName tC_NoName sC_NoName, op_NoName, mr_NoName, su_NoName, ns_NoName, ⟨soc_NoName, sod_NoName, skV_NoName, sdc_NoName, spm_NoName, san_NoName, sct_NoName, sosl_NoName, fn_NoName, fun _ _ _ => .of_eq rfl⟩, cd_NoName, ⟨ccl_NoName, cdd_NoName, va_NoName, vs_NoName, file_NoName, tf_NoName, co_NoName, vf_NoName, fi_NoName⟩, ⟨cl_NoName, cld_NoName, csl_NoName, ce_NoName⟩, tp_NoName⟩
abbrev sx_Full : Stmt := inClass (topS 14) 0
def msg_Full : PySem.Expr := match defBody sx_Full with
  | (.Expr (.Call _ (m :: _) _ _) _) :: _ => m
  | _ => .Constant .none 0 ⟨0, 0, 0, 0⟩
theorem tx_Full : SupText sx_Full "over" msg_Full := ⟨⟨_, _, _, _, _, _, _, _, _, rfl, _, fun _ => rfl⟩, fun _ => rfl, rfl, rfl, ⟨by decide +kernel, by decide +kernel, by decide +kernel, by decide +kernel, by decide +kernel⟩⟩
theorem mx_Full {prog : Program} {w : World} : MsgOk prog w msg_Full "over" okInt := msg_post (by decide +kernel) (by decide +kernel)
theorem sup_Full_mk {prog : Program} {K : PySem.W.Frag} {C_Full fI_Full cc_Full cda_Full : Addr} {nm_Full qn_Full : Str} {N_Full : Addr} {bs_Full bm_Full sub_Full : List Value} {sn_Full : List Str} {ab_Full : Bool} {col_Full : Option Bool} {dd_Full : Option Addr} {k0_Full k1_Full k2_Full k3_Full k5_Full : Option Value}
    {soc_Full skV_Full sdc_Full spm_Full sct_Full ccl_Full cl_Full : Value} {sod_Full san_Full cdd_Full cld_Full : Option Addr} {sosl_Full vs_Full : Array (Option Value)} {va_Full : Array Value} {csl_Full : Array (Option Value)} {file_Full : Str} {tf_Full : Tok}
    (x_Full : K.lookup C_Full = some (excClassObj nm_Full qn_Full C_Full N_Full bs_Full bm_Full true sn_Full sub_Full ab_Full col_Full dd_Full k0_Full k1_Full k2_Full k3_Full k5_Full "ValueError.__new__"))
    (hbm_Full : PySem.HandSPX.refsVE bm_Full = true)
    (sa_Full : PySem.W.findIn K (.ref C_Full) "__setattr__" = some (some (.builtin "object.__setattr__")))
    (ga_Full : PySem.W.findIn K (.ref C_Full) "__getattribute__" = some (some (.builtin "BaseException.__getattribute__")))
    (gg_Full : PySem.W.findIn K (.ref C_Full) "__getattr__" = some none)
    (no_Full : PySem.W.findIn K (.ref C_Full) "over" = some none)
    (iC_Full : PySem.W.findIn K (.ref C_Full) "__init__" = some (some (.ref fI_Full)))
    (tI_Full : PySem.W.typeIn K (.ref fI_Full) = some (.type "function"))
    (kC_Full : PySem.W.keepIn K (.ref C_Full) = true)
    (eC_Full : PySem.W.subIn K (.ref C_Full) (.type "BaseException") = some true)
    (vE_Full : PySem.W.subIn K (.ref C_Full) (.type "ValueError") = some true)
    (tC_Full : PySem.W.typeIn K (.ref C_Full) = some (.type "type"))
    (hD_Full : PySem.W.hasDictIn K C_Full = true)
    (cI_Full : PySem.W.isClsIn K C_Full = true)
    (sC_Full : PySem.W.subIn K (.ref C_Full) (.ref C_Full) = some true)
    (op_Full : PySem.W.nsIn K PySem.cStatics "thirdparty.any" = some none)
    (mr_Full : PySem.W.mroIn K C_Full (.ref C_Full) = some true)
    (su_Full : PySem.W.ks_superIn K C_Full C_Full "__init__" = some (some (.builtin "ValueError.__init__")))
    (ns_Full : PySem.W.nsIn K mainGlobals "super" = some none)
    (fn_Full : K.lookup fI_Full = some ⟨soc_Full, sod_Full, .func (PySem.W.ksFn "__init__" "Full.__init__" (defArgs sx_Full) (defBody sx_Full) (defScope sx_Full) .none skV_Full sdc_Full spm_Full san_Full (.ref cda_Full) sct_Full cc_Full), sosl_Full⟩)
    (cd_Full : PySem.W.codeIn K (.ref cda_Full) "Full.__init__" = true)
    (co_Full : K.lookup cda_Full = some ⟨ccl_Full, cdd_Full, .fields va_Full, vs_Full⟩)
    (vf_Full : va_Full[2]? = some (.str file_Full tf_Full))
    (fi_Full : ((prog.main.file : Str) == file_Full) = true)
    (ce_Full : K.lookup cc_Full = some ⟨cl_Full, cld_Full, .cell (some (.ref C_Full)), csl_Full⟩)
    (tp_Full : (prog.main.scope.names.lookup ("super" : Str)).isSome = false)
    : SupTxt prog K sx_Full "Full.__init__" "over" msg_Full C_Full fI_Full cc_Full cda_Full := ⟨⟨nm_Full, qn_Full, N_Full, bs_Full, bm_Full, sn_Full, sub_Full, ab_Full, col_Full, dd_Full, k0_Full, k1_Full, k2_Full, k3_Full, k5_Full, x_Full, hbm_Full⟩, sa_Full, ga_Full, gg_Full, no_Full, iC_Full, tI_Full, kC_Full, eC_Full, vE_Full, tC_Full, hD_Full, exm_self eC_Full cI_Full tC_Full sC_Full, op_Full, mr_Full, su_Full, ns_Full, ⟨soc_Full, sod_Full, skV_Full, sdc_Full, spm_Full, san_Full, sct_Full, sosl_Full, fn_Full, fun _ _ _ => .of_eq rfl⟩, cd_Full, ⟨ccl_Full, cdd_Full, va_Full, vs_Full, file_Full, tf_Full, co_Full, vf_Full, fi_Full⟩, ⟨cl_Full, cld_Full, csl_Full, ce_Full⟩, tp_Full⟩
def IsF (K : PySem.W.Frag) (C : Addr) : Prop := PySem.W.isClsIn K C = true ∧ PySem.W.findIn K (.ref C) "__getattribute__" = some (some (.builtin "BaseException.__getattribute__")) ∧ PySem.W.findIn K (.ref C) "__getattr__" = some none ∧ PySem.W.subIn K (.ref C) (.type "BaseException") = some true ∧ PySem.W.findIn K (.ref C) "__class__" = some (some (.builtin "object.__class__")) ∧ PySem.W.specialIn K (.builtin "object.__class__") "__get__" = some (some (.builtin "getset_descriptor.__get__")) ∧ PySem.W.takesIn K (.builtin "object.__class__") = some true ∧ PySem.W.mroIn K C (.type "object") = some true ∧ PySem.W.typeIn K (.ref C) = some (.type "type") ∧ PySem.W.subIn K (.ref C) (.ref C) = some true ∧ PySem.W.subIn K (.ref C) (.type "ValueError") = some true
theorem IsF.t {K : PySem.W.Frag} {C : Addr} (h : IsF K C) : IsTxt K C := ⟨h.1, h.2.1, h.2.2.1, h.2.2.2.1, h.2.2.2.2.1, h.2.2.2.2.2.1, h.2.2.2.2.2.2.1, h.2.2.2.2.2.2.2.1⟩
theorem IsF.off {K : PySem.W.Frag} {C D : Addr} (h : IsF K C) (g : IsF K D) (s : PySem.W.subIn K (.ref C) (.ref D) = some false) : PySem.W.kitOne K (.ref C) (.ref D) = some false := kit_other h.2.2.2.2.2.2.2.2.2.1 g.1 g.2.2.2.2.2.2.2.2.1 s
theorem IsF.on {K : PySem.W.Frag} {C D : Addr} (g : IsF K D) (s : PySem.W.subIn K (.ref C) (.ref D) = some true) : PySem.W.kitOne K (.ref C) (.ref D) = some true := kit_own g.1 g.2.2.2.2.2.2.2.2.1 s fun _ => rfl
theorem IsF.ve {K : PySem.W.Frag} {C : Addr} (h : IsF K C) : PySem.W.kitOne K (.ref C) (.type "ValueError") = some true := kit_VE h.2.2.2.2.2.2.2.2.2.2
def SubRow (K : PySem.W.Frag) (C : Addr) : List Addr → List Bool → Prop
  | D :: ds, b :: bs => PySem.W.subIn K (.ref C) (.ref D) = some b ∧ SubRow K C ds bs
  | _, _ => True
def AllF (K : PySem.W.Frag) : List Addr → Prop
  | [] => True
  | D :: ds => IsF K D ∧ AllF K ds
theorem kinds_row {K : PySem.W.Frag} {C : Addr} (h : IsF K C) : ∀ {ds : List Addr} {bs : List Bool}, ds.length = bs.length → AllF K ds → SubRow K C ds bs → Kinds K C ds bs
  | [], [], _, _, _ => .nil
  | D :: ds, b :: bs, l, f, s => .cons (by
      cases b with
      | false => exact h.off f.1 s.1
      | true => exact IsF.on f.1 s.1) (kinds_row h (by simpa using l) f.2 s.2)
def AllFam (K : PySem.W.Frag) (ds : List Addr) (dS : Addr) : Nat → List Addr → Prop
  | _, [] => True
  | k, C :: r => Fam K ds dS C k ∧ AllFam K ds dS (k + 1) r
theorem AllFam.at {K : PySem.W.Frag} {ds : List Addr} {dS : Addr} : ∀ {l : List Addr} {k : Nat}, AllFam K ds dS k l → ∀ i C, l[i]? = some C → Fam K ds dS C (k + i)
  | _ :: _, k, h, 0, C, e => by cases e; exact h.1
  | _ :: _, k, h, i + 1, C, e => by rw [show k + (i + 1) = k + 1 + i by omega]; exact AllFam.at h.2 i C e
theorem all_mk {l : PySem.W.OpenLaw} {w : World} {K : PySem.W.Frag} {h : Heap} {mg : Str → Option Value} {fa f_lawpot f_lawdip f_lawflags f_law : Addr} (X : K.In h) (G : h.Ns mainGlobals mg) (hfa : mg "law" = some (.ref fa))
    {od_lawpot an_lawpot od_lawdip an_lawdip od_lawflags an_lawflags od_law an_law : Option Addr} {sl_lawpot sl_lawdip sl_lawflags sl_law : Array (Option Value)} {oc_lawpot kV_lawpot dc_lawpot pm_lawpot cd_lawpot ct_lawpot oc_lawdip kV_lawdip dc_lawdip pm_lawdip cd_lawdip ct_lawdip oc_lawflags kV_lawflags dc_lawflags pm_lawflags cd_lawflags ct_lawflags oc_law kV_law dc_law pm_law cd_law ct_law : Value}
    (a_lawpot : PySem.W.nsIn K mainGlobals "_law_pot" = some (some (.ref f_lawpot))) (l_lawpot : K.lookup f_lawpot = some ⟨oc_lawpot, od_lawpot, .func (PySem.W.fnOf "_law_pot" "_law_pot" (defArgs sPot) (defBody sPot) (defScope sPot) .none kV_lawpot dc_lawpot pm_lawpot an_lawpot cd_lawpot ct_lawpot), sl_lawpot⟩) (c_lawpot : PySem.W.codeIn K cd_lawpot "_law_pot" = true) (k_lawpot : PySem.W.keepIn K (.ref f_lawpot) = true)
    (a_lawdip : PySem.W.nsIn K mainGlobals "_law_dip" = some (some (.ref f_lawdip))) (l_lawdip : K.lookup f_lawdip = some ⟨oc_lawdip, od_lawdip, .func (PySem.W.fnOf "_law_dip" "_law_dip" (defArgs sDip) (defBody sDip) (defScope sDip) .none kV_lawdip dc_lawdip pm_lawdip an_lawdip cd_lawdip ct_lawdip), sl_lawdip⟩) (c_lawdip : PySem.W.codeIn K cd_lawdip "_law_dip" = true) (k_lawdip : PySem.W.keepIn K (.ref f_lawdip) = true)
    (a_lawflags : PySem.W.nsIn K mainGlobals "_law_flags" = some (some (.ref f_lawflags))) (l_lawflags : K.lookup f_lawflags = some ⟨oc_lawflags, od_lawflags, .func (PySem.W.fnOf "_law_flags" "_law_flags" (defArgs sFlags) (defBody sFlags) (defScope sFlags) .none kV_lawflags dc_lawflags pm_lawflags an_lawflags cd_lawflags ct_lawflags), sl_lawflags⟩) (c_lawflags : PySem.W.codeIn K cd_lawflags "_law_flags" = true) (k_lawflags : PySem.W.keepIn K (.ref f_lawflags) = true)
    (a_law : PySem.W.nsIn K mainGlobals "law" = some (some (.ref f_law))) (l_law : K.lookup f_law = some ⟨oc_law, od_law, .func (PySem.W.fnOf "law" "law" (defArgs sLaw) (defBody sLaw) (defScope sLaw) .none kV_law dc_law pm_law an_law cd_law ct_law), sl_law⟩) (c_law : PySem.W.codeIn K cd_law "law" = true) (k_law : PySem.W.keepIn K (.ref f_law) = true)
    (z_range : PySem.W.nsIn K mainGlobals "range" = some none)
    (z_max : PySem.W.nsIn K mainGlobals "max" = some none)
    (z_min : PySem.W.nsIn K mainGlobals "min" = some none)
    (z_len : PySem.W.nsIn K mainGlobals "len" = some none)
    (z_str : PySem.W.nsIn K mainGlobals "str" = some none)
    (z_isinstance : PySem.W.nsIn K mainGlobals "isinstance" = some none)
    (z_ValueError : PySem.W.nsIn K mainGlobals "ValueError" = some none)
    {C_NoStanding : Addr} (a_NoStanding : PySem.W.nsIn K mainGlobals "NoStanding" = some (some (.ref C_NoStanding)))
    {C_NoBook : Addr} (a_NoBook : PySem.W.nsIn K mainGlobals "NoBook" = some (some (.ref C_NoBook)))
    {C_NoDeed : Addr} (a_NoDeed : PySem.W.nsIn K mainGlobals "NoDeed" = some (some (.ref C_NoDeed)))
    {C_NoTurning : Addr} (a_NoTurning : PySem.W.nsIn K mainGlobals "NoTurning" = some (some (.ref C_NoTurning)))
    {C_NotEven : Addr} (a_NotEven : PySem.W.nsIn K mainGlobals "NotEven" = some (some (.ref C_NotEven)))
    {C_NoRound : Addr} (a_NoRound : PySem.W.nsIn K mainGlobals "NoRound" = some (some (.ref C_NoRound)))
    {C_NoPair : Addr} (a_NoPair : PySem.W.nsIn K mainGlobals "NoPair" = some (some (.ref C_NoPair)))
    {C_Barred : Addr} (a_Barred : PySem.W.nsIn K mainGlobals "Barred" = some (some (.ref C_Barred)))
    {C_TooMany : Addr} (a_TooMany : PySem.W.nsIn K mainGlobals "TooMany" = some (some (.ref C_TooMany)))
    {C_Few : Addr} (a_Few : PySem.W.nsIn K mainGlobals "Few" = some (some (.ref C_Few)))
    {C_NoPlan : Addr} (a_NoPlan : PySem.W.nsIn K mainGlobals "NoPlan" = some (some (.ref C_NoPlan)))
    {C_NoName : Addr} (a_NoName : PySem.W.nsIn K mainGlobals "NoName" = some (some (.ref C_NoName)))
    {C_Full : Addr} (a_Full : PySem.W.nsIn K mainGlobals "Full" = some (some (.ref C_Full)))
    {C_StrideError : Addr} (a_StrideError : PySem.W.nsIn K mainGlobals "StrideError" = some (some (.ref C_StrideError)))
    {fI_NoStanding cc_NoStanding cda_NoStanding : Addr} (T_NoStanding : SupTxt l.prog K sx_NoStanding "NoStanding.__init__" "at" msg_NoStanding C_NoStanding fI_NoStanding cc_NoStanding cda_NoStanding)
    {fI_NoBook cc_NoBook cda_NoBook : Addr} (T_NoBook : SupTxt l.prog K sx_NoBook "NoBook.__init__" "at" msg_NoBook C_NoBook fI_NoBook cc_NoBook cda_NoBook)
    {fI_NoDeed cc_NoDeed cda_NoDeed : Addr} (T_NoDeed : SupTxt l.prog K sx_NoDeed "NoDeed.__init__" "at" msg_NoDeed C_NoDeed fI_NoDeed cc_NoDeed cda_NoDeed)
    {fI_NoTurning cc_NoTurning cda_NoTurning : Addr} (T_NoTurning : SupTxt l.prog K sx_NoTurning "NoTurning.__init__" "at" msg_NoTurning C_NoTurning fI_NoTurning cc_NoTurning cda_NoTurning)
    {fI_Barred cc_Barred cda_Barred : Addr} (T_Barred : SupTxt l.prog K sx_Barred "Barred.__init__" "paper" msg_Barred C_Barred fI_Barred cc_Barred cda_Barred)
    {fI_TooMany cc_TooMany cda_TooMany : Addr} (T_TooMany : SupTxt l.prog K sx_TooMany "TooMany.__init__" "many" msg_TooMany C_TooMany fI_TooMany cc_TooMany cda_TooMany)
    {fI_Few cc_Few cda_Few : Addr} (T_Few : SupTxt l.prog K sx_Few "Few.__init__" "many" msg_Few C_Few fI_Few cc_Few cda_Few)
    {fI_NoPlan cc_NoPlan cda_NoPlan : Addr} (T_NoPlan : SupTxt l.prog K sx_NoPlan "NoPlan.__init__" "row" msg_NoPlan C_NoPlan fI_NoPlan cc_NoPlan cda_NoPlan)
    {fI_NoName cc_NoName cda_NoName : Addr} (T_NoName : SupTxt l.prog K sx_NoName "NoName.__init__" "name" msg_NoName C_NoName fI_NoName cc_NoName cda_NoName)
    {fI_Full cc_Full cda_Full : Addr} (T_Full : SupTxt l.prog K sx_Full "Full.__init__" "over" msg_Full C_Full fI_Full cc_Full cda_Full)
    (xi_NotEven : PySem.W.excIn K C_NotEven [.type "ValueError", .type "Exception", .type "BaseException", .type "object"] "ValueError.__new__" = true) (kc_NotEven : PySem.W.keepIn K (.ref C_NotEven) = true)
    (xi_NoRound : PySem.W.excIn K C_NoRound [.type "ValueError", .type "Exception", .type "BaseException", .type "object"] "ValueError.__new__" = true) (kc_NoRound : PySem.W.keepIn K (.ref C_NoRound) = true)
    (xi_NoPair : PySem.W.excIn K C_NoPair [.type "ValueError", .type "Exception", .type "BaseException", .type "object"] "ValueError.__new__" = true) (kc_NoPair : PySem.W.keepIn K (.ref C_NoPair) = true)
    (xi_StrideError : PySem.W.excIn K C_StrideError [.type "ValueError", .type "Exception", .type "BaseException", .type "object"] "ValueError.__new__" = true) (kc_StrideError : PySem.W.keepIn K (.ref C_StrideError) = true)
    (sx_NotEven : StrTxt K C_NotEven)
    (sx_NoRound : StrTxt K C_NoRound)
    (sx_NoPair : StrTxt K C_NoPair)
    (fAll : AllF K [C_NoStanding, C_NoBook, C_NoDeed, C_NoTurning, C_NotEven, C_NoRound, C_NoPair, C_Barred, C_TooMany, C_Few, C_NoPlan, C_NoName, C_Full]) (fS : IsF K C_StrideError)
    (r_NoStanding : SubRow K C_NoStanding [C_NoStanding, C_NoBook, C_NoDeed, C_NoTurning, C_NotEven, C_NoRound, C_NoPair, C_Barred, C_TooMany, C_Few, C_NoPlan, C_NoName, C_Full] [true, false, false, false, false, false, false, false, false, false, false, false, false]) (b_NoStanding : PySem.W.subIn K (.ref C_NoStanding) (.ref C_StrideError) = some true)
    (r_NoBook : SubRow K C_NoBook [C_NoStanding, C_NoBook, C_NoDeed, C_NoTurning, C_NotEven, C_NoRound, C_NoPair, C_Barred, C_TooMany, C_Few, C_NoPlan, C_NoName, C_Full] [false, true, false, false, false, false, false, false, false, false, false, false, false]) (b_NoBook : PySem.W.subIn K (.ref C_NoBook) (.ref C_StrideError) = some true)
    (r_NoDeed : SubRow K C_NoDeed [C_NoStanding, C_NoBook, C_NoDeed, C_NoTurning, C_NotEven, C_NoRound, C_NoPair, C_Barred, C_TooMany, C_Few, C_NoPlan, C_NoName, C_Full] [false, false, true, false, false, false, false, false, false, false, false, false, false]) (b_NoDeed : PySem.W.subIn K (.ref C_NoDeed) (.ref C_StrideError) = some true)
    (r_NoTurning : SubRow K C_NoTurning [C_NoStanding, C_NoBook, C_NoDeed, C_NoTurning, C_NotEven, C_NoRound, C_NoPair, C_Barred, C_TooMany, C_Few, C_NoPlan, C_NoName, C_Full] [false, false, false, true, false, false, false, false, false, false, false, false, false]) (b_NoTurning : PySem.W.subIn K (.ref C_NoTurning) (.ref C_StrideError) = some true)
    (r_NotEven : SubRow K C_NotEven [C_NoStanding, C_NoBook, C_NoDeed, C_NoTurning, C_NotEven, C_NoRound, C_NoPair, C_Barred, C_TooMany, C_Few, C_NoPlan, C_NoName, C_Full] [false, false, false, false, true, false, false, false, false, false, false, false, false]) (b_NotEven : PySem.W.subIn K (.ref C_NotEven) (.ref C_StrideError) = some true)
    (r_NoRound : SubRow K C_NoRound [C_NoStanding, C_NoBook, C_NoDeed, C_NoTurning, C_NotEven, C_NoRound, C_NoPair, C_Barred, C_TooMany, C_Few, C_NoPlan, C_NoName, C_Full] [false, false, false, false, false, true, false, false, false, false, false, false, false]) (b_NoRound : PySem.W.subIn K (.ref C_NoRound) (.ref C_StrideError) = some true)
    (r_NoPair : SubRow K C_NoPair [C_NoStanding, C_NoBook, C_NoDeed, C_NoTurning, C_NotEven, C_NoRound, C_NoPair, C_Barred, C_TooMany, C_Few, C_NoPlan, C_NoName, C_Full] [false, false, false, false, false, false, true, false, false, false, false, false, false]) (b_NoPair : PySem.W.subIn K (.ref C_NoPair) (.ref C_StrideError) = some true)
    (r_Barred : SubRow K C_Barred [C_NoStanding, C_NoBook, C_NoDeed, C_NoTurning, C_NotEven, C_NoRound, C_NoPair, C_Barred, C_TooMany, C_Few, C_NoPlan, C_NoName, C_Full] [false, false, false, false, false, false, false, true, false, false, false, false, false]) (b_Barred : PySem.W.subIn K (.ref C_Barred) (.ref C_StrideError) = some true)
    (r_TooMany : SubRow K C_TooMany [C_NoStanding, C_NoBook, C_NoDeed, C_NoTurning, C_NotEven, C_NoRound, C_NoPair, C_Barred, C_TooMany, C_Few, C_NoPlan, C_NoName, C_Full] [false, false, false, false, false, false, false, false, true, false, false, false, false]) (b_TooMany : PySem.W.subIn K (.ref C_TooMany) (.ref C_StrideError) = some true)
    (r_Few : SubRow K C_Few [C_NoStanding, C_NoBook, C_NoDeed, C_NoTurning, C_NotEven, C_NoRound, C_NoPair, C_Barred, C_TooMany, C_Few, C_NoPlan, C_NoName, C_Full] [false, false, false, false, false, false, false, false, false, true, false, false, false]) (b_Few : PySem.W.subIn K (.ref C_Few) (.ref C_StrideError) = some true)
    (r_NoPlan : SubRow K C_NoPlan [C_NoStanding, C_NoBook, C_NoDeed, C_NoTurning, C_NotEven, C_NoRound, C_NoPair, C_Barred, C_TooMany, C_Few, C_NoPlan, C_NoName, C_Full] [false, false, false, false, false, false, false, false, false, false, true, false, false]) (b_NoPlan : PySem.W.subIn K (.ref C_NoPlan) (.ref C_StrideError) = some true)
    (r_NoName : SubRow K C_NoName [C_NoStanding, C_NoBook, C_NoDeed, C_NoTurning, C_NotEven, C_NoRound, C_NoPair, C_Barred, C_TooMany, C_Few, C_NoPlan, C_NoName, C_Full] [false, false, false, false, false, false, false, false, false, false, false, true, false]) (b_NoName : PySem.W.subIn K (.ref C_NoName) (.ref C_StrideError) = some true)
    (r_Full : SubRow K C_Full [C_NoStanding, C_NoBook, C_NoDeed, C_NoTurning, C_NotEven, C_NoRound, C_NoPair, C_Barred, C_TooMany, C_Few, C_NoPlan, C_NoName, C_Full] [false, false, false, false, false, false, false, false, false, false, false, false, true]) (b_Full : PySem.W.subIn K (.ref C_Full) (.ref C_StrideError) = some true)
    (rS : SubRow K C_StrideError [C_NoStanding, C_NoBook, C_NoDeed, C_NoTurning, C_NotEven, C_NoRound, C_NoPair, C_Barred, C_TooMany, C_Few, C_NoPlan, C_NoName, C_Full] (List.replicate 13 false))
    : ∃ fd : FuncData, (∀ (s : Shared) (v : Value), BindsTo s fd ⟨[v], []⟩ [("script", v)]) ∧ ∀ base : Heap, K.In base → base.Ns mainGlobals mg → FnOk l.prog w K mg base CX0 2 fa fd ["script"] (spLaw K) := by
  have e := hfa.symm.trans (PySem.W.mg_of X G a_law)
  cases e
  have F_lawpot := fun_mk (st := sPot) l_lawpot c_lawpot k_lawpot
  have b_lawpot := F_lawpot.binds (ps := ["script", "at"]) fun _ _ _ _ _ _ us hl => match us, hl with | [_, _], _ => rfl
  have g_lawpot := PySem.W.mg_of X G a_lawpot
  have F_lawdip := fun_mk (st := sDip) l_lawdip c_lawdip k_lawdip
  have b_lawdip := F_lawdip.binds (ps := ["pot", "many"]) fun _ _ _ _ _ _ us hl => match us, hl with | [_, _], _ => rfl
  have g_lawdip := PySem.W.mg_of X G a_lawdip
  have F_lawflags := fun_mk (st := sFlags) l_lawflags c_lawflags k_lawflags
  have b_lawflags := F_lawflags.binds (ps := ["e"]) fun _ _ _ _ _ _ us hl => match us, hl with | [_], _ => rfl
  have g_lawflags := PySem.W.mg_of X G a_lawflags
  have F_law := fun_mk (st := sLaw) l_law c_law k_law
  have m_range := PySem.W.mg_none_of X G z_range
  have m_max := PySem.W.mg_none_of X G z_max
  have m_min := PySem.W.mg_none_of X G z_min
  have m_len := PySem.W.mg_none_of X G z_len
  have m_str := PySem.W.mg_none_of X G z_str
  have m_isinstance := PySem.W.mg_none_of X G z_isinstance
  have m_ValueError := PySem.W.mg_none_of X G z_ValueError
  have c_NoStanding := PySem.W.mg_of X G a_NoStanding
  have c_NoBook := PySem.W.mg_of X G a_NoBook
  have c_NoDeed := PySem.W.mg_of X G a_NoDeed
  have c_NoTurning := PySem.W.mg_of X G a_NoTurning
  have c_NotEven := PySem.W.mg_of X G a_NotEven
  have c_NoRound := PySem.W.mg_of X G a_NoRound
  have c_NoPair := PySem.W.mg_of X G a_NoPair
  have c_Barred := PySem.W.mg_of X G a_Barred
  have c_TooMany := PySem.W.mg_of X G a_TooMany
  have c_Few := PySem.W.mg_of X G a_Few
  have c_NoPlan := PySem.W.mg_of X G a_NoPlan
  have c_NoName := PySem.W.mg_of X G a_NoName
  have c_Full := PySem.W.mg_of X G a_Full
  have c_StrideError := PySem.W.mg_of X G a_StrideError
  have i_NoStanding : IsF K C_NoStanding := fAll.1
  have i_NoBook : IsF K C_NoBook := fAll.2.1
  have i_NoDeed : IsF K C_NoDeed := fAll.2.2.1
  have i_NoTurning : IsF K C_NoTurning := fAll.2.2.2.1
  have i_NotEven : IsF K C_NotEven := fAll.2.2.2.2.1
  have i_NoRound : IsF K C_NoRound := fAll.2.2.2.2.2.1
  have i_NoPair : IsF K C_NoPair := fAll.2.2.2.2.2.2.1
  have i_Barred : IsF K C_Barred := fAll.2.2.2.2.2.2.2.1
  have i_TooMany : IsF K C_TooMany := fAll.2.2.2.2.2.2.2.2.1
  have i_Few : IsF K C_Few := fAll.2.2.2.2.2.2.2.2.2.1
  have i_NoPlan : IsF K C_NoPlan := fAll.2.2.2.2.2.2.2.2.2.2.1
  have i_NoName : IsF K C_NoName := fAll.2.2.2.2.2.2.2.2.2.2.2.1
  have i_Full : IsF K C_Full := fAll.2.2.2.2.2.2.2.2.2.2.2.2.1
  have hF : AllFam K [C_NoStanding, C_NoBook, C_NoDeed, C_NoTurning, C_NotEven, C_NoRound, C_NoPair, C_Barred, C_TooMany, C_Few, C_NoPlan, C_NoName, C_Full] C_StrideError 0 [C_NoStanding, C_NoBook, C_NoDeed, C_NoTurning, C_NotEven, C_NoRound, C_NoPair, C_Barred, C_TooMany, C_Few, C_NoPlan, C_NoName, C_Full] := ⟨⟨i_NoStanding.t, kinds_row i_NoStanding rfl fAll r_NoStanding, IsF.on fS b_NoStanding, i_NoStanding.ve⟩, ⟨⟨i_NoBook.t, kinds_row i_NoBook rfl fAll r_NoBook, IsF.on fS b_NoBook, i_NoBook.ve⟩, ⟨⟨i_NoDeed.t, kinds_row i_NoDeed rfl fAll r_NoDeed, IsF.on fS b_NoDeed, i_NoDeed.ve⟩, ⟨⟨i_NoTurning.t, kinds_row i_NoTurning rfl fAll r_NoTurning, IsF.on fS b_NoTurning, i_NoTurning.ve⟩, ⟨⟨i_NotEven.t, kinds_row i_NotEven rfl fAll r_NotEven, IsF.on fS b_NotEven, i_NotEven.ve⟩, ⟨⟨i_NoRound.t, kinds_row i_NoRound rfl fAll r_NoRound, IsF.on fS b_NoRound, i_NoRound.ve⟩, ⟨⟨i_NoPair.t, kinds_row i_NoPair rfl fAll r_NoPair, IsF.on fS b_NoPair, i_NoPair.ve⟩, ⟨⟨i_Barred.t, kinds_row i_Barred rfl fAll r_Barred, IsF.on fS b_Barred, i_Barred.ve⟩, ⟨⟨i_TooMany.t, kinds_row i_TooMany rfl fAll r_TooMany, IsF.on fS b_TooMany, i_TooMany.ve⟩, ⟨⟨i_Few.t, kinds_row i_Few rfl fAll r_Few, IsF.on fS b_Few, i_Few.ve⟩, ⟨⟨i_NoPlan.t, kinds_row i_NoPlan rfl fAll r_NoPlan, IsF.on fS b_NoPlan, i_NoPlan.ve⟩, ⟨⟨i_NoName.t, kinds_row i_NoName rfl fAll r_NoName, IsF.on fS b_NoName, i_NoName.ve⟩, ⟨⟨i_Full.t, kinds_row i_Full rfl fAll r_Full, IsF.on fS b_Full, i_Full.ve⟩, trivial⟩⟩⟩⟩⟩⟩⟩⟩⟩⟩⟩⟩⟩
  have hF2 : ∀ i C, ([C_NoStanding, C_NoBook, C_NoDeed, C_NoTurning, C_NotEven, C_NoRound, C_NoPair, C_Barred, C_TooMany, C_Few, C_NoPlan, C_NoName, C_Full] : List Addr)[i]? = some C → Fam K [C_NoStanding, C_NoBook, C_NoDeed, C_NoTurning, C_NotEven, C_NoRound, C_NoPair, C_Barred, C_TooMany, C_Few, C_NoPlan, C_NoName, C_Full] C_StrideError C i := fun i C e => by have := AllFam.at hF i C e; rwa [Nat.zero_add] at this
  have hB : IsTxt K C_StrideError ∧ Kinds K C_StrideError [C_NoStanding, C_NoBook, C_NoDeed, C_NoTurning, C_NotEven, C_NoRound, C_NoPair, C_Barred, C_TooMany, C_Few, C_NoPlan, C_NoName, C_Full] (List.replicate 13 false) ∧ PySem.W.kitOne K (.ref C_StrideError) (.ref C_StrideError) = some true ∧ PySem.W.kitOne K (.ref C_StrideError) (.type "ValueError") = some true := ⟨fS.t, kinds_row fS rfl fAll rS, kit_self, fS.ve⟩
  refine ⟨PySem.W.fnOf "law" "law" (defArgs sLaw) (defBody sLaw) (defScope sLaw) .none kV_law dc_law pm_law an_law cd_law ct_law, fun s v => .of_eq rfl, fun base _ _ => ?_⟩
  have D__law_pot : Def l.prog w K mg base 1 "_law_pot" ["script", "at"] _ f_lawpot _ := ⟨ok_pot F_lawpot m_len m_max, g_lawpot, F_lawpot.kp, b_lawpot⟩
  have D__law_dip : Def l.prog w K mg base 1 "_law_dip" ["pot", "many"] _ f_lawdip _ := ⟨ok_dip F_lawdip, g_lawdip, F_lawdip.kp, b_lawdip⟩
  have D__law_flags : Def l.prog w K mg base 1 "_law_flags" ["e"] _ f_lawflags _ := ⟨ok_flags F_lawflags m_isinstance m_ValueError c_NoStanding c_NoBook c_NoDeed c_NoTurning c_NotEven c_NoRound c_NoPair c_Barred c_TooMany c_Few c_NoPlan c_NoName c_Full c_StrideError, g_lawflags, F_lawflags.kp, b_lawflags⟩
  exact ok_law F_law D__law_pot D__law_dip D__law_flags T_NoStanding tx_NoStanding mx_NoStanding T_NoBook tx_NoBook mx_NoBook T_NoDeed tx_NoDeed mx_NoDeed T_NoTurning tx_NoTurning mx_NoTurning T_Barred tx_Barred mx_Barred T_TooMany tx_TooMany mx_TooMany T_Few tx_Few mx_Few T_NoPlan tx_NoPlan mx_NoPlan T_NoName tx_NoName mx_NoName T_Full tx_Full mx_Full c_NoStanding c_NoBook c_NoDeed c_NoTurning c_NotEven c_NoRound c_NoPair c_Barred c_TooMany c_Few c_NoPlan c_NoName c_Full c_StrideError xi_NotEven kc_NotEven xi_NoRound kc_NoRound xi_NoPair kc_NoPair xi_StrideError kc_StrideError sx_NotEven sx_NoRound sx_NoPair hB hF2 m_range m_max m_min m_len m_str
end L_k57
open PySem PySem.W PyProof.Rows
set_option maxHeartbeats 0 in
theorem PySem.Challenge.cw_stridelots_k57_refusals_made_holds : PySem.Challenge.rw_stridelots_k57_refusals_made.Holds := by
  w_on; o_law; k_head; (case hw => w_witness2)
  k_fill
  refine L2.walk_of (l := PySem.Challenge.rw_stridelots_k57_refusals_made) (n := 63) (k := 2) (x := "script") (CX := fun _ => L2.CX0) (sp := fun w => L_k57.spLaw _) rfl (by decide) rfl ⟨rfl, by decide, by decide⟩ (fun w h Y => PySem.W.kIn_of Y) ?F (fun _ _ a ns hl _ hS => ⟨a, ns, rfl, hS, hl, fun _ => rfl⟩) (fun _ _ _ _ _ h => h)
  case F =>
    intro w mg fa h KX G hmg
    refine' L_k57.all_mk KX G hmg ?a_lawpot ?l_lawpot ?c_lawpot ?k_lawpot ?a_lawdip ?l_lawdip ?c_lawdip ?k_lawdip ?a_lawflags ?l_lawflags ?c_lawflags ?k_lawflags ?a_law ?l_law ?c_law ?k_law ?z_range ?z_max ?z_min ?z_len ?z_str ?z_isinstance ?z_ValueError ?a_NoStanding ?a_NoBook ?a_NoDeed ?a_NoTurning ?a_NotEven ?a_NoRound ?a_NoPair ?a_Barred ?a_TooMany ?a_Few ?a_NoPlan ?a_NoName ?a_Full ?a_StrideError ?T_NoStanding ?T_NoBook ?T_NoDeed ?T_NoTurning ?T_Barred ?T_TooMany ?T_Few ?T_NoPlan ?T_NoName ?T_Full ?xi_NotEven ?kc_NotEven ?xi_NoRound ?kc_NoRound ?xi_NoPair ?kc_NoPair ?xi_StrideError ?kc_StrideError ?sx_NotEven ?sx_NoRound ?sx_NoPair ?fAll ?fS ?r_NoStanding ?b_NoStanding ?r_NoBook ?b_NoBook ?r_NoDeed ?b_NoDeed ?r_NoTurning ?b_NoTurning ?r_NotEven ?b_NotEven ?r_NoRound ?b_NoRound ?r_NoPair ?b_NoPair ?r_Barred ?b_Barred ?r_TooMany ?b_TooMany ?r_Few ?b_Few ?r_NoPlan ?b_NoPlan ?r_NoName ?b_NoName ?r_Full ?b_Full ?rS
    (case a_lawpot => k_is)
    (case l_lawpot => k_is)
    (case c_lawpot => k_is)
    (case k_lawpot => k_is)
    (case a_lawdip => k_is)
    (case l_lawdip => k_is)
    (case c_lawdip => k_is)
    (case k_lawdip => k_is)
    (case a_lawflags => k_is)
    (case l_lawflags => k_is)
    (case c_lawflags => k_is)
    (case k_lawflags => k_is)
    (case a_law => k_is)
    (case l_law => k_is)
    (case c_law => k_is)
    (case k_law => k_is)
    (case z_range => k_is)
    (case z_max => k_is)
    (case z_min => k_is)
    (case z_len => k_is)
    (case z_str => k_is)
    (case z_isinstance => k_is)
    (case z_ValueError => k_is)
    (case a_NoStanding => k_is)
    (case a_NoBook => k_is)
    (case a_NoDeed => k_is)
    (case a_NoTurning => k_is)
    (case a_NotEven => k_is)
    (case a_NoRound => k_is)
    (case a_NoPair => k_is)
    (case a_Barred => k_is)
    (case a_TooMany => k_is)
    (case a_Few => k_is)
    (case a_NoPlan => k_is)
    (case a_NoName => k_is)
    (case a_Full => k_is)
    (case a_StrideError => k_is)
    (case T_NoStanding =>
      refine' L_k57.sup_NoStanding_mk ?x_NoStanding ?hbm_NoStanding ?sa_NoStanding ?ga_NoStanding ?gg_NoStanding ?no_NoStanding ?iC_NoStanding ?tI_NoStanding ?kC_NoStanding ?eC_NoStanding ?vE_NoStanding ?tC_NoStanding ?hD_NoStanding ?cI_NoStanding ?sC_NoStanding ?op_NoStanding ?mr_NoStanding ?su_NoStanding ?ns_NoStanding ?fn_NoStanding ?cd_NoStanding ?co_NoStanding ?vf_NoStanding ?fi_NoStanding ?ce_NoStanding ?tp_NoStanding
      (case x_NoStanding => k_is); (case hbm_NoStanding => first | rfl | decide +kernel); (case sa_NoStanding => k_is); (case ga_NoStanding => k_is); (case gg_NoStanding => k_is); (case no_NoStanding => k_is); (case iC_NoStanding => k_is); (case tI_NoStanding => k_is); (case kC_NoStanding => k_is); (case eC_NoStanding => k_is); (case vE_NoStanding => k_is); (case tC_NoStanding => k_is); (case hD_NoStanding => k_is); (case cI_NoStanding => k_is); (case sC_NoStanding => first | rfl | k_is); (case op_NoStanding => k_is); (case mr_NoStanding => k_is); (case su_NoStanding => ks_is); (case ns_NoStanding => k_is); (case fn_NoStanding => k_is); (case cd_NoStanding => k_is); (case co_NoStanding => k_is); (case vf_NoStanding => first | rfl | decide +kernel); (case fi_NoStanding => first | rfl | decide +kernel); (case ce_NoStanding => k_is); (case tp_NoStanding => first | rfl | decide +kernel))
    (case T_NoBook =>
      refine' L_k57.sup_NoBook_mk ?x_NoBook ?hbm_NoBook ?sa_NoBook ?ga_NoBook ?gg_NoBook ?no_NoBook ?iC_NoBook ?tI_NoBook ?kC_NoBook ?eC_NoBook ?vE_NoBook ?tC_NoBook ?hD_NoBook ?cI_NoBook ?sC_NoBook ?op_NoBook ?mr_NoBook ?su_NoBook ?ns_NoBook ?fn_NoBook ?cd_NoBook ?co_NoBook ?vf_NoBook ?fi_NoBook ?ce_NoBook ?tp_NoBook
      (case x_NoBook => k_is); (case hbm_NoBook => first | rfl | decide +kernel); (case sa_NoBook => k_is); (case ga_NoBook => k_is); (case gg_NoBook => k_is); (case no_NoBook => k_is); (case iC_NoBook => k_is); (case tI_NoBook => k_is); (case kC_NoBook => k_is); (case eC_NoBook => k_is); (case vE_NoBook => k_is); (case tC_NoBook => k_is); (case hD_NoBook => k_is); (case cI_NoBook => k_is); (case sC_NoBook => first | rfl | k_is); (case op_NoBook => k_is); (case mr_NoBook => k_is); (case su_NoBook => ks_is); (case ns_NoBook => k_is); (case fn_NoBook => k_is); (case cd_NoBook => k_is); (case co_NoBook => k_is); (case vf_NoBook => first | rfl | decide +kernel); (case fi_NoBook => first | rfl | decide +kernel); (case ce_NoBook => k_is); (case tp_NoBook => first | rfl | decide +kernel))
    (case T_NoDeed =>
      refine' L_k57.sup_NoDeed_mk ?x_NoDeed ?hbm_NoDeed ?sa_NoDeed ?ga_NoDeed ?gg_NoDeed ?no_NoDeed ?iC_NoDeed ?tI_NoDeed ?kC_NoDeed ?eC_NoDeed ?vE_NoDeed ?tC_NoDeed ?hD_NoDeed ?cI_NoDeed ?sC_NoDeed ?op_NoDeed ?mr_NoDeed ?su_NoDeed ?ns_NoDeed ?fn_NoDeed ?cd_NoDeed ?co_NoDeed ?vf_NoDeed ?fi_NoDeed ?ce_NoDeed ?tp_NoDeed
      (case x_NoDeed => k_is); (case hbm_NoDeed => first | rfl | decide +kernel); (case sa_NoDeed => k_is); (case ga_NoDeed => k_is); (case gg_NoDeed => k_is); (case no_NoDeed => k_is); (case iC_NoDeed => k_is); (case tI_NoDeed => k_is); (case kC_NoDeed => k_is); (case eC_NoDeed => k_is); (case vE_NoDeed => k_is); (case tC_NoDeed => k_is); (case hD_NoDeed => k_is); (case cI_NoDeed => k_is); (case sC_NoDeed => first | rfl | k_is); (case op_NoDeed => k_is); (case mr_NoDeed => k_is); (case su_NoDeed => ks_is); (case ns_NoDeed => k_is); (case fn_NoDeed => k_is); (case cd_NoDeed => k_is); (case co_NoDeed => k_is); (case vf_NoDeed => first | rfl | decide +kernel); (case fi_NoDeed => first | rfl | decide +kernel); (case ce_NoDeed => k_is); (case tp_NoDeed => first | rfl | decide +kernel))
    (case T_NoTurning =>
      refine' L_k57.sup_NoTurning_mk ?x_NoTurning ?hbm_NoTurning ?sa_NoTurning ?ga_NoTurning ?gg_NoTurning ?no_NoTurning ?iC_NoTurning ?tI_NoTurning ?kC_NoTurning ?eC_NoTurning ?vE_NoTurning ?tC_NoTurning ?hD_NoTurning ?cI_NoTurning ?sC_NoTurning ?op_NoTurning ?mr_NoTurning ?su_NoTurning ?ns_NoTurning ?fn_NoTurning ?cd_NoTurning ?co_NoTurning ?vf_NoTurning ?fi_NoTurning ?ce_NoTurning ?tp_NoTurning
      (case x_NoTurning => k_is); (case hbm_NoTurning => first | rfl | decide +kernel); (case sa_NoTurning => k_is); (case ga_NoTurning => k_is); (case gg_NoTurning => k_is); (case no_NoTurning => k_is); (case iC_NoTurning => k_is); (case tI_NoTurning => k_is); (case kC_NoTurning => k_is); (case eC_NoTurning => k_is); (case vE_NoTurning => k_is); (case tC_NoTurning => k_is); (case hD_NoTurning => k_is); (case cI_NoTurning => k_is); (case sC_NoTurning => first | rfl | k_is); (case op_NoTurning => k_is); (case mr_NoTurning => k_is); (case su_NoTurning => ks_is); (case ns_NoTurning => k_is); (case fn_NoTurning => k_is); (case cd_NoTurning => k_is); (case co_NoTurning => k_is); (case vf_NoTurning => first | rfl | decide +kernel); (case fi_NoTurning => first | rfl | decide +kernel); (case ce_NoTurning => k_is); (case tp_NoTurning => first | rfl | decide +kernel))
    (case T_Barred =>
      refine' L_k57.sup_Barred_mk ?x_Barred ?hbm_Barred ?sa_Barred ?ga_Barred ?gg_Barred ?no_Barred ?iC_Barred ?tI_Barred ?kC_Barred ?eC_Barred ?vE_Barred ?tC_Barred ?hD_Barred ?cI_Barred ?sC_Barred ?op_Barred ?mr_Barred ?su_Barred ?ns_Barred ?fn_Barred ?cd_Barred ?co_Barred ?vf_Barred ?fi_Barred ?ce_Barred ?tp_Barred
      (case x_Barred => k_is); (case hbm_Barred => first | rfl | decide +kernel); (case sa_Barred => k_is); (case ga_Barred => k_is); (case gg_Barred => k_is); (case no_Barred => k_is); (case iC_Barred => k_is); (case tI_Barred => k_is); (case kC_Barred => k_is); (case eC_Barred => k_is); (case vE_Barred => k_is); (case tC_Barred => k_is); (case hD_Barred => k_is); (case cI_Barred => k_is); (case sC_Barred => first | rfl | k_is); (case op_Barred => k_is); (case mr_Barred => k_is); (case su_Barred => ks_is); (case ns_Barred => k_is); (case fn_Barred => k_is); (case cd_Barred => k_is); (case co_Barred => k_is); (case vf_Barred => first | rfl | decide +kernel); (case fi_Barred => first | rfl | decide +kernel); (case ce_Barred => k_is); (case tp_Barred => first | rfl | decide +kernel))
    (case T_TooMany =>
      refine' L_k57.sup_TooMany_mk ?x_TooMany ?hbm_TooMany ?sa_TooMany ?ga_TooMany ?gg_TooMany ?no_TooMany ?iC_TooMany ?tI_TooMany ?kC_TooMany ?eC_TooMany ?vE_TooMany ?tC_TooMany ?hD_TooMany ?cI_TooMany ?sC_TooMany ?op_TooMany ?mr_TooMany ?su_TooMany ?ns_TooMany ?fn_TooMany ?cd_TooMany ?co_TooMany ?vf_TooMany ?fi_TooMany ?ce_TooMany ?tp_TooMany
      (case x_TooMany => k_is); (case hbm_TooMany => first | rfl | decide +kernel); (case sa_TooMany => k_is); (case ga_TooMany => k_is); (case gg_TooMany => k_is); (case no_TooMany => k_is); (case iC_TooMany => k_is); (case tI_TooMany => k_is); (case kC_TooMany => k_is); (case eC_TooMany => k_is); (case vE_TooMany => k_is); (case tC_TooMany => k_is); (case hD_TooMany => k_is); (case cI_TooMany => k_is); (case sC_TooMany => first | rfl | k_is); (case op_TooMany => k_is); (case mr_TooMany => k_is); (case su_TooMany => ks_is); (case ns_TooMany => k_is); (case fn_TooMany => k_is); (case cd_TooMany => k_is); (case co_TooMany => k_is); (case vf_TooMany => first | rfl | decide +kernel); (case fi_TooMany => first | rfl | decide +kernel); (case ce_TooMany => k_is); (case tp_TooMany => first | rfl | decide +kernel))
    (case T_Few =>
      refine' L_k57.sup_Few_mk ?x_Few ?hbm_Few ?sa_Few ?ga_Few ?gg_Few ?no_Few ?iC_Few ?tI_Few ?kC_Few ?eC_Few ?vE_Few ?tC_Few ?hD_Few ?cI_Few ?sC_Few ?op_Few ?mr_Few ?su_Few ?ns_Few ?fn_Few ?cd_Few ?co_Few ?vf_Few ?fi_Few ?ce_Few ?tp_Few
      (case x_Few => k_is); (case hbm_Few => first | rfl | decide +kernel); (case sa_Few => k_is); (case ga_Few => k_is); (case gg_Few => k_is); (case no_Few => k_is); (case iC_Few => k_is); (case tI_Few => k_is); (case kC_Few => k_is); (case eC_Few => k_is); (case vE_Few => k_is); (case tC_Few => k_is); (case hD_Few => k_is); (case cI_Few => k_is); (case sC_Few => first | rfl | k_is); (case op_Few => k_is); (case mr_Few => k_is); (case su_Few => ks_is); (case ns_Few => k_is); (case fn_Few => k_is); (case cd_Few => k_is); (case co_Few => k_is); (case vf_Few => first | rfl | decide +kernel); (case fi_Few => first | rfl | decide +kernel); (case ce_Few => k_is); (case tp_Few => first | rfl | decide +kernel))
    (case T_NoPlan =>
      refine' L_k57.sup_NoPlan_mk ?x_NoPlan ?hbm_NoPlan ?sa_NoPlan ?ga_NoPlan ?gg_NoPlan ?no_NoPlan ?iC_NoPlan ?tI_NoPlan ?kC_NoPlan ?eC_NoPlan ?vE_NoPlan ?tC_NoPlan ?hD_NoPlan ?cI_NoPlan ?sC_NoPlan ?op_NoPlan ?mr_NoPlan ?su_NoPlan ?ns_NoPlan ?fn_NoPlan ?cd_NoPlan ?co_NoPlan ?vf_NoPlan ?fi_NoPlan ?ce_NoPlan ?tp_NoPlan
      (case x_NoPlan => k_is); (case hbm_NoPlan => first | rfl | decide +kernel); (case sa_NoPlan => k_is); (case ga_NoPlan => k_is); (case gg_NoPlan => k_is); (case no_NoPlan => k_is); (case iC_NoPlan => k_is); (case tI_NoPlan => k_is); (case kC_NoPlan => k_is); (case eC_NoPlan => k_is); (case vE_NoPlan => k_is); (case tC_NoPlan => k_is); (case hD_NoPlan => k_is); (case cI_NoPlan => k_is); (case sC_NoPlan => first | rfl | k_is); (case op_NoPlan => k_is); (case mr_NoPlan => k_is); (case su_NoPlan => ks_is); (case ns_NoPlan => k_is); (case fn_NoPlan => k_is); (case cd_NoPlan => k_is); (case co_NoPlan => k_is); (case vf_NoPlan => first | rfl | decide +kernel); (case fi_NoPlan => first | rfl | decide +kernel); (case ce_NoPlan => k_is); (case tp_NoPlan => first | rfl | decide +kernel))
    (case T_NoName =>
      refine' L_k57.sup_NoName_mk ?x_NoName ?hbm_NoName ?sa_NoName ?ga_NoName ?gg_NoName ?no_NoName ?iC_NoName ?tI_NoName ?kC_NoName ?eC_NoName ?vE_NoName ?tC_NoName ?hD_NoName ?cI_NoName ?sC_NoName ?op_NoName ?mr_NoName ?su_NoName ?ns_NoName ?fn_NoName ?cd_NoName ?co_NoName ?vf_NoName ?fi_NoName ?ce_NoName ?tp_NoName
      (case x_NoName => k_is); (case hbm_NoName => first | rfl | decide +kernel); (case sa_NoName => k_is); (case ga_NoName => k_is); (case gg_NoName => k_is); (case no_NoName => k_is); (case iC_NoName => k_is); (case tI_NoName => k_is); (case kC_NoName => k_is); (case eC_NoName => k_is); (case vE_NoName => k_is); (case tC_NoName => k_is); (case hD_NoName => k_is); (case cI_NoName => k_is); (case sC_NoName => first | rfl | k_is); (case op_NoName => k_is); (case mr_NoName => k_is); (case su_NoName => ks_is); (case ns_NoName => k_is); (case fn_NoName => k_is); (case cd_NoName => k_is); (case co_NoName => k_is); (case vf_NoName => first | rfl | decide +kernel); (case fi_NoName => first | rfl | decide +kernel); (case ce_NoName => k_is); (case tp_NoName => first | rfl | decide +kernel))
    (case T_Full =>
      refine' L_k57.sup_Full_mk ?x_Full ?hbm_Full ?sa_Full ?ga_Full ?gg_Full ?no_Full ?iC_Full ?tI_Full ?kC_Full ?eC_Full ?vE_Full ?tC_Full ?hD_Full ?cI_Full ?sC_Full ?op_Full ?mr_Full ?su_Full ?ns_Full ?fn_Full ?cd_Full ?co_Full ?vf_Full ?fi_Full ?ce_Full ?tp_Full
      (case x_Full => k_is); (case hbm_Full => first | rfl | decide +kernel); (case sa_Full => k_is); (case ga_Full => k_is); (case gg_Full => k_is); (case no_Full => k_is); (case iC_Full => k_is); (case tI_Full => k_is); (case kC_Full => k_is); (case eC_Full => k_is); (case vE_Full => k_is); (case tC_Full => k_is); (case hD_Full => k_is); (case cI_Full => k_is); (case sC_Full => first | rfl | k_is); (case op_Full => k_is); (case mr_Full => k_is); (case su_Full => ks_is); (case ns_Full => k_is); (case fn_Full => k_is); (case cd_Full => k_is); (case co_Full => k_is); (case vf_Full => first | rfl | decide +kernel); (case fi_Full => first | rfl | decide +kernel); (case ce_Full => k_is); (case tp_Full => first | rfl | decide +kernel))
    (case xi_NotEven => k_exc)
    (case kc_NotEven => k_is)
    (case xi_NoRound => k_exc)
    (case kc_NoRound => k_is)
    (case xi_NoPair => k_exc)
    (case kc_NoPair => k_is)
    (case xi_StrideError => k_exc)
    (case kc_StrideError => k_is)
    (case sx_NotEven => (repeat' (first | exact trivial | refine And.intro ?_ ?_)) <;> k_is)
    (case sx_NoRound => (repeat' (first | exact trivial | refine And.intro ?_ ?_)) <;> k_is)
    (case sx_NoPair => (repeat' (first | exact trivial | refine And.intro ?_ ?_)) <;> k_is)
    (case fAll => (repeat' (first | exact trivial | refine And.intro ?_ ?_)) <;> k_is)
    (case fS => (repeat' (first | exact trivial | refine And.intro ?_ ?_)) <;> k_is)
    (case r_NoStanding => (repeat' (first | exact trivial | refine And.intro ?_ ?_)) <;> k_is)
    (case b_NoStanding => k_is)
    (case r_NoBook => (repeat' (first | exact trivial | refine And.intro ?_ ?_)) <;> k_is)
    (case b_NoBook => k_is)
    (case r_NoDeed => (repeat' (first | exact trivial | refine And.intro ?_ ?_)) <;> k_is)
    (case b_NoDeed => k_is)
    (case r_NoTurning => (repeat' (first | exact trivial | refine And.intro ?_ ?_)) <;> k_is)
    (case b_NoTurning => k_is)
    (case r_NotEven => (repeat' (first | exact trivial | refine And.intro ?_ ?_)) <;> k_is)
    (case b_NotEven => k_is)
    (case r_NoRound => (repeat' (first | exact trivial | refine And.intro ?_ ?_)) <;> k_is)
    (case b_NoRound => k_is)
    (case r_NoPair => (repeat' (first | exact trivial | refine And.intro ?_ ?_)) <;> k_is)
    (case b_NoPair => k_is)
    (case r_Barred => (repeat' (first | exact trivial | refine And.intro ?_ ?_)) <;> k_is)
    (case b_Barred => k_is)
    (case r_TooMany => (repeat' (first | exact trivial | refine And.intro ?_ ?_)) <;> k_is)
    (case b_TooMany => k_is)
    (case r_Few => (repeat' (first | exact trivial | refine And.intro ?_ ?_)) <;> k_is)
    (case b_Few => k_is)
    (case r_NoPlan => (repeat' (first | exact trivial | refine And.intro ?_ ?_)) <;> k_is)
    (case b_NoPlan => k_is)
    (case r_NoName => (repeat' (first | exact trivial | refine And.intro ?_ ?_)) <;> k_is)
    (case b_NoName => k_is)
    (case r_Full => (repeat' (first | exact trivial | refine And.intro ?_ ?_)) <;> k_is)
    (case b_Full => k_is)
    (case rS => (repeat' (first | exact trivial | refine And.intro ?_ ?_)) <;> k_is)

