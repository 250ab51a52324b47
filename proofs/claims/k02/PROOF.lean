import PyProof.Rows.All
import Wide.All
import OpenK.AllK
import Wide.FinOn
import PySem.Challenge.RW_stridelots_k02_standings_read
import HandS.Base
import HandS.Call
import HandS.List
import HandS.Comp
import HandS.Ends
import HandS.Dict
import HandS.Iter
import HandS.Text
import HandS.Words
import HandS.WordsList
import HandS.Wide
import HandS.FStr
import PyProof.StrOps2
import HandS.Codes
import HandS.Walk
import PyProof.ReprRoads
import HandS.FStrTup
import HandS.IsInst
set_option Elab.async false
set_option linter.all false
set_option maxRecDepth 100000
set_option maxHeartbeats 4000000
/-! Common to all rows: powers of great ints, heaps that keep all but one place, pots. -/
namespace Lot
open PySem PySem.Spec PyProof.Rows L2
theorem iteP {b : Bool} {A B : Prop} (hb : b = true) (h : A) : if b = true then A else B := by
  rw [if_pos hb]; exact h
theorem iteN {b : Bool} {A B : Prop} (hb : b = false) (h : B) : if b = true then A else B := by
  rw [hb, if_neg Bool.false_ne_true]; exact h
/-! ### powers -/
def CPowW (i j : Int) : Prop := 0 ≤ j ∧ j ≤ 10 ∧ i.natAbs < 2 ^ 200
theorem CPowW.bits {i j : Int} (h : CPowW i j) : (Builtin.Int.intBits i : Int) * j ≤ 2 ^ 27 := by
  obtain ⟨h0, h1, h2⟩ := h
  have hb : Builtin.Int.intBits i ≤ 201 := by
    unfold Builtin.Int.intBits
    have := PySem.Flt.log2_lt_of (by decide : 0 < 200) h2
    split <;> omega
  have h3 : (Builtin.Int.intBits i : Int) * j ≤ 201 * j := Int.mul_le_mul_of_nonneg_right (by omega) h0
  omega
theorem op_powW {X : Cx} : OpR X (binaryOp .Pow) (rI CPowW fun i j => .int (i ^ j.toNat)) := opI fun _ _ _ _ _ _ _ hc q => pow_int hc.1 hc.bits q
/-! ### heaps -/
theorem same_upd {H : Hp} {p : Addr} {o : HO} (h : H p = none) : Same H (upd H p o) := fun b x e => by
  rw [upd_ne (ne_of_none e h)]
  exact e
/-- all that is tracked stays, but for p -/
def But (p : Addr) (H H' : Hp) : Prop := ∀ b o, b ≠ p → H b = some o → H' b = some o
theorem But.refl {p : Addr} {H : Hp} : But p H H := fun _ _ _ h => h
theorem But.trans {p : Addr} {H H1 H2 : Hp} (a : But p H H1) (b : But p H1 H2) : But p H H2 := fun c o n h => b c o n (a c o n h)
theorem But.upd {p : Addr} {H : Hp} {o : HO} : But p H (upd H p o) := fun b x n e => by
  rw [upd_ne n]
  exact e
theorem But.of_same {p : Addr} {H H' : Hp} (h : Same H H') : But p H H' := fun b o _ e => h b o e
theorem But.seq {K : PySem.W.Frag} {p : Addr} {H H' : Hp} {a : Addr} {xs : List V} (e : But p H H') (n : a ≠ p) (h : SqL K H a xs) : SqL K H' a xs := by
  rcases h with (h | ⟨o, h⟩) | h
  · exact .inl (.inl (e _ _ n h))
  · exact .inl (.inr ⟨o, e _ _ n h⟩)
  · exact .inr h
/-! ### pots -/
def PotV (N : Nat) (vs : List V) : Prop := ∃ a c n : Int, vs = [.int a, .int c, .int n] ∧ 0 ≤ a ∧ 0 ≤ c ∧ c < 10 ^ 39 ∧ 0 ≤ n ∧ n ≤ (N : Int)
/-- at p stands a pot of which at most N draws were taken -/
def PotAt (H : Hp) (p : Addr) (N : Nat) : Prop := ∃ vs, H p = some (.lst vs) ∧ PotV N vs
theorem PotV.mono {N M : Nat} {vs : List V} (h : PotV N vs) (le : N ≤ M) : PotV M vs := by
  obtain ⟨a, c, n, e, h1, h2, h3, h4, h5⟩ := h
  exact ⟨a, c, n, e, h1, h2, h3, h4, by omega⟩
theorem PotAt.mono {H : Hp} {p : Addr} {N M : Nat} (h : PotAt H p N) (le : N ≤ M) : PotAt H p M := by
  obtain ⟨vs, e, h⟩ := h
  exact ⟨vs, e, h.mono le⟩
theorem PotAt.same {H H' : Hp} {p : Addr} {N : Nat} (h : PotAt H p N) (s : Same H H') : PotAt H' p N := by
  obtain ⟨vs, e, h⟩ := h
  exact ⟨vs, s _ _ e, h⟩
theorem PotAt.ne {H : Hp} {p : Addr} {N : Nat} (h : PotAt H p N) {q : Addr} (e : H q = none) : q ≠ p := fun z => by
  obtain ⟨vs, f, _⟩ := h
  rw [z] at e; rw [e] at f; cases f
theorem PotAt.upd {H : Hp} {p : Addr} {N : Nat} {vs : List V} (h : PotV N vs) : PotAt (L2.upd H p (.lst vs)) p N := ⟨vs, upd_same, h⟩
theorem PotAt.updne {H : Hp} {p q : Addr} {N : Nat} {o : HO} (h : PotAt H p N) (n : p ≠ q) : PotAt (L2.upd H q o) p N := by
  obtain ⟨vs, e, h⟩ := h
  exact ⟨vs, by rw [upd_ne n]; exact e, h⟩
theorem int_lt_pow {i : Int} {k : Nat} (h0 : 0 ≤ i) (h : i < 2 ^ k) : i.natAbs < 2 ^ k := by
  have e : ((i.natAbs : Nat) : Int) = i := Int.natAbs_of_nonneg h0
  have h2 : ((i.natAbs : Nat) : Int) < ((2 ^ k : Nat) : Int) := by
    rw [e, Int.natCast_pow]; exact h
  exact Int.ofNat_lt.mp h2
theorem modlt {a b : Int} (h : 0 < b) : 0 ≤ a % b ∧ a % b < b := ⟨Int.emod_nonneg _ (by omega), Int.emod_lt_of_pos _ h⟩
/-! ### boards -/
inductive Bd where
  | row (n : Nat) | ring (n : Nat) | floor (h w : Nat)
def Bd.vals : Bd → List V
  | .row n => [.str "row", .int n]
  | .ring n => [.str "ring", .int n]
  | .floor h w => [.str "floor", .int h, .int w]
def Bd.Ok (most : Nat) : Bd → Prop
  | .row n => 3 ≤ n ∧ n ≤ most
  | .ring n => 5 ≤ n ∧ n ≤ most
  | .floor h w => 1 ≤ h ∧ 1 ≤ w ∧ h * w ≤ most
def Bd.high : Bd → Nat
  | .floor h _ => h
  | _ => 1
def Bd.wide : Bd → Nat
  | .row n => n
  | .ring n => n
  | .floor _ w => w
def Bd.cells (b : Bd) : Nat := b.high * b.wide
/-! ### a def of the text, ready to be called -/
structure Def (P : Program) (w : World) (K : PySem.W.Frag) (mg : Str → Option Value) (base : Heap) (k : Nat) (x : Str) (ps : List Str) (sp : Sp) (f : Addr) (fd : FuncData) : Prop where
  ok : FnOk P w K mg base CX0 k f fd ps sp
  g : mg x = some (.ref f)
  kp : PySem.W.keepIn K (.ref f) = true
  b : Binds K fd ps []
end Lot
namespace Lot
open PySem PySem.Spec PyProof.Rows L2
theorem same_new {H H' : Hp} {D : Addr} {o : HO} (s : Same H H') (n : H D = none) : Same H (upd H' D o) := fun b x e => by
  rw [upd_ne (ne_of_none e n)]
  exact s _ _ e
theorem But.new {p : Addr} {H H' : Hp} {D : Addr} {o : HO} (s : But p H H') (n : H D = none) : But p H (L2.upd H' D o) := fun b x hb e => by
  rw [upd_ne (ne_of_none e n)]
  exact s _ _ hb e
/-- an object that is not the pot's stood nowhere before -/
theorem But.free {p : Addr} {H H' : Hp} {b : Addr} (B : But p H H') (hb : b ≠ p) (h : H' b = none) : H b = none := by
  cases z : H b with
  | none => rfl
  | some o => rw [B b o hb z] at h; cases h
theorem PotAt.is {H : Hp} {p : Addr} {N : Nat} (h : PotAt H p N) : ∃ vs, H p = some (.lst vs) := by
  obtain ⟨vs, e, _⟩ := h
  exact ⟨vs, e⟩
theorem perm_erase {α : Type} : ∀ {l : List α} {k : Nat} {x : α}, l[k]? = some x → List.Perm (x :: l.eraseIdx k) l
  | [], k, x, h => by simp at h
  | a :: l, 0, x, h => by
    have e : a = x := Option.some.inj h
    subst e
    exact List.Perm.refl _
  | a :: l, k + 1, x, h => by
    have ih := perm_erase (l := l) (k := k) (x := x) h
    show List.Perm (x :: a :: l.eraseIdx k) (a :: l)
    exact (List.Perm.swap _ _ _).trans (List.Perm.cons a ih)
/-! ### things -/
def thing (t : Str × Nat) : List V := [.str t.1, .int t.2]
def Things (H : Hp) : List Addr → List (Str × Nat) → Prop
  | [], [] => True
  | a :: as, t :: ts => H a = some (.tup (thing t)) ∧ Things H as ts
  | _, _ => False
theorem Things.same {H H' : Hp} (s : Same H H') : ∀ {as : List Addr} {ts : List (Str × Nat)}, Things H as ts → Things H' as ts
  | [], [], _ => trivial
  | a :: as, t :: ts, h => ⟨s _ _ h.1, Things.same s h.2⟩
  | [], _ :: _, h => h.elim
  | _ :: _, [], h => h.elim
theorem Things.but {p : Addr} {H H' : Hp} (s : But p H H') (hp : ∃ vs, H p = some (.lst vs)) : ∀ {as : List Addr} {ts : List (Str × Nat)}, Things H as ts → Things H' as ts
  | [], [], _ => trivial
  | a :: as, t :: ts, h => ⟨s _ _ (fun z => by
      obtain ⟨vs, e⟩ := hp
      have := h.1
      rw [z, e] at this
      cases this) h.1, Things.but s hp h.2⟩
  | [], _ :: _, h => h.elim
  | _ :: _, [], h => h.elim
theorem Things.length {H : Hp} : ∀ {as : List Addr} {ts : List (Str × Nat)}, Things H as ts → as.length = ts.length
  | [], [], _ => rfl
  | a :: as, t :: ts, h => by
    rw [List.length_cons, List.length_cons, Things.length h.2]
  | [], _ :: _, h => h.elim
  | _ :: _, [], h => h.elim
theorem Things.get {H : Hp} : ∀ {as : List Addr} {ts : List (Str × Nat)} {i : Nat} {t : Str × Nat}, Things H as ts → ts[i]? = some t → ∃ a, as[i]? = some a ∧ H a = some (.tup (thing t))
  | [], [], i, t, _, e => by simp at e
  | a :: as, u :: ts, 0, t, h, e => by
    have e' : u = t := Option.some.inj e
    subst e'
    exact ⟨a, rfl, h.1⟩
  | a :: as, u :: ts, i + 1, t, h, e => Things.get (i := i) h.2 e
  | [], _ :: _, _, _, h, _ => h.elim
  | _ :: _, [], _, _, h, _ => h.elim
theorem Things.snoc {H : Hp} {b : Addr} {u : Str × Nat} (hb : H b = some (.tup (thing u))) : ∀ {as : List Addr} {ts : List (Str × Nat)}, Things H as ts → Things H (as ++ [b]) (ts ++ [u])
  | [], [], _ => ⟨hb, trivial⟩
  | a :: as, t :: ts, h => ⟨h.1, Things.snoc hb h.2⟩
  | [], _ :: _, h => h.elim
  | _ :: _, [], h => h.elim
/-- a standing at t: its things -/
def StandAt (H : Hp) (t : Addr) (ths : List (Str × Nat)) : Prop := ∃ as : List Addr, H t = some (.tup (as.map V.ref)) ∧ Things H as ths
theorem StandAt.same {H H' : Hp} {t : Addr} {ths : List (Str × Nat)} (h : StandAt H t ths) (s : Same H H') : StandAt H' t ths := by
  obtain ⟨as, e, g⟩ := h
  exact ⟨as, s _ _ e, g.same s⟩
theorem StandAt.but {p : Addr} {H H' : Hp} {t : Addr} {ths : List (Str × Nat)} (h : StandAt H t ths) (s : But p H H') (hp : ∃ vs, H p = some (.lst vs)) : StandAt H' t ths := by
  obtain ⟨as, e, g⟩ := h
  refine ⟨as, s _ _ (fun z => ?_) e, g.but s hp⟩
  obtain ⟨vs, f⟩ := hp
  rw [z, f] at e
  cases e
end Lot
namespace Lot
open PySem PySem.Spec PyProof.Rows L2
theorem same_but {p : Addr} {H H1 H2 : Hp} (s : Same H H1) (hp : H p = none) (b : But p H1 H2) : Same H H2 := fun c o e => b c o (ne_of_none e hp) (s _ _ e)
theorem Bd.cells_le {bd : Bd} (ok : bd.Ok 36) : 1 ≤ bd.cells ∧ bd.cells ≤ 36 := by
  cases bd with
  | row n => rw [show (Bd.row n).cells = n from Nat.one_mul n]; exact ⟨by have := ok.1; omega, ok.2⟩
  | ring n => rw [show (Bd.ring n).cells = n from Nat.one_mul n]; exact ⟨by have := ok.1; omega, ok.2⟩
  | floor h w => exact ⟨Nat.mul_pos ok.1 ok.2.1, ok.2.2⟩
end Lot

namespace Lot
open PySem PySem.Spec PyProof.Rows L2
/-! ### texts many times -/
def rRepS : R2 := fun x y H Q => ∃ (z : Str) (k : Int), x = .str z ∧ y = .int k ∧ 0 ≤ k ∧ k ≤ 1000 ∧ z.length ≤ 1000 ∧ ∀ r : Str, r.cps.toList = (List.replicate k.toNat z.cps.toList).flatten → Q (.str r) H
theorem foldl_arr : ∀ (l : List (Array Nat)) (a : Array Nat), (l.foldl (· ++ ·) a).toList = a.toList ++ (l.map (·.toList)).flatten
  | [], a => by simp
  | x :: l, a => by
    rw [List.foldl_cons, foldl_arr l (a ++ x)]
    simp [List.append_assoc]
theorem op_repS {X : Cx} : OpR X (binaryOp .Mult) rRepS := by
  intro pins s σ H x y v u Q I rx ry h
  obtain ⟨z, k, rfl, rfl, h0, h1, hz, q⟩ := h
  obtain ⟨t, rfl⟩ := rx
  obtain ⟨t', rfl⟩ := ry
  refine PySem.P.mul_str ?_ ?_ ?_ ?_
  · rw [decide_eq_false (by omega), decide_eq_false (by omega)]; rfl
  · intro a _ b
    have : (2 ^ 63 - 1 : Int) / k ≥ 1000 := by
      have := (Int.le_ediv_iff_mul_le (a := 1000) (b := 2 ^ 63 - 1) (c := k) (by omega)).mpr (by omega)
      omega
    omega
  · intro _ _
    unfold Builtin.Str.tooLong
    have e : z.length * k.toNat ≤ 1000 * 1000 := Nat.mul_le_mul hz (by omega)
    have e2 : 1000 * 1000 < sizeLine := by decide
    simp only [decide_eq_false_iff_not]
    omega
  · by_cases c : k < 1
    · rw [if_pos c]
      refine ⟨by decide, .str Str.empty, H, I.tok _, ⟨_, rfl⟩, q _ ?_⟩
      have : k.toNat = 0 := by omega
      rw [this]
      rfl
    · rw [if_neg c]
      by_cases c2 : (k == 1 || z.length == 0) = true
      · rw [if_pos c2]
        refine ⟨.str z, H, I, ⟨t, rfl⟩, q _ ?_⟩
        rw [Bool.or_eq_true] at c2
        rcases c2 with c2 | c2
        · have : k = 1 := by simpa using c2
          subst this
          show z.cps.toList = (List.replicate 1 z.cps.toList).flatten
          simp
        · have : z.cps.toList = [] := by
            have : z.cps.size = 0 := by simpa [Str.length] using c2
            exact List.eq_nil_of_length_eq_zero (by simpa using this)
          rw [this]
          simp
      · rw [if_neg c2]
        refine ⟨?_, .str ⟨(List.replicate k.toNat z.cps).foldl (· ++ ·) #[]⟩, H, I.tok _, ⟨_, rfl⟩, q _ ?_⟩
        · have e : (⟨(List.replicate k.toNat z.cps).foldl (· ++ ·) #[]⟩ : Str).length = k.toNat * z.length := by
            show ((List.replicate k.toNat z.cps).foldl (· ++ ·) #[]).size = _
            rw [← Array.length_toList, foldl_arr]
            have hz : z.length = z.cps.toList.length := by simp [Str.length]
            rw [hz]
            have : ∀ n : Nat, ((#[] : Array Nat).toList ++ ((List.replicate n z.cps).map (·.toList)).flatten).length = n * z.cps.toList.length := fun n => by
              induction n with
              | zero => simp
              | succ n ih =>
                rw [List.replicate_succ, List.map_cons, List.flatten_cons, Nat.succ_mul, ← ih]
                simp
                omega
            exact this _
          rw [e]
          have e : k.toNat * z.length ≤ 1000 * 1000 := Nat.mul_le_mul (by omega) hz
          have e2 : 1000 * 1000 < sizeLine := by decide
          omega
        · rw [foldl_arr]
          simp
/-! ### names -/
/-- as a name: n letters a to z -/
def Abc (n : Nat) (z : Str) : Prop := z.length = n ∧ ∀ c ∈ z.cps.toList, 97 ≤ c ∧ c ≤ 122
theorem Abc.app {n m : Nat} {a b : Str} (h : Abc n a) (g : Abc m b) : Abc (n + m) (a ++ b) := by
  refine ⟨?_, ?_⟩
  · show (a.cps ++ b.cps).size = _
    rw [Array.size_append]
    have h1 : a.cps.size = n := h.1
    have g1 : b.cps.size = m := g.1
    omega
  · intro c hc
    have : c ∈ (a.cps ++ b.cps).toList := hc
    rw [Array.toList_append, List.mem_append] at this
    exact this.elim (h.2 c) (g.2 c)
theorem Abc.rep {n k : Nat} {a r : Str} (h : Abc n a) (e : r.cps.toList = (List.replicate k a.cps.toList).flatten) : Abc (n * k) r := by
  have h1 : a.cps.toList.length = n := by simpa [Str.length] using h.1
  refine ⟨?_, ?_⟩
  · show r.cps.size = _
    rw [← Array.length_toList, e]
    clear e
    induction k with
    | zero => rfl
    | succ k ih => rw [List.replicate_succ, List.flatten_cons, List.length_append, ih, h1, Nat.mul_succ, Nat.add_comm]
  · intro c hc
    rw [e] at hc
    obtain ⟨l, hl, hc⟩ := List.mem_flatten.mp hc
    exact h.2 c ((List.mem_replicate.mp hl).2 ▸ hc)
theorem Abc.one {c : Nat} (h1 : 97 ≤ c) (h2 : c ≤ 122) : Abc 1 ⟨#[c]⟩ := ⟨rfl, fun d hd => by
  have : d = c := by simpa using hd
  omega⟩
def NameOk (z : Str) : Prop := 1 ≤ z.length ∧ z.length ≤ 4 ∧ ∀ c ∈ z.cps.toList, 97 ≤ c ∧ c ≤ 122
theorem Abc.name {n : Nat} {z : Str} (h : Abc n z) (h1 : 1 ≤ n) (h4 : n ≤ 4) : NameOk z := ⟨by rw [h.1]; exact h1, by rw [h.1]; exact h4, h.2⟩
/-- the letters -/
def abc : Str := "abcdefghijklmnopqrstuvwxyz"
theorem abc_list : abc.cps.toList = (List.range 26).map (97 + ·) := by decide +kernel
theorem abc_len : abc.length = 26 := by decide +kernel
theorem abc_at {i : Int} (h0 : 0 ≤ i) (h1 : i < 26) : atI abc.cps.toList i = some (97 + i.toNat) := by
  have e : i = ((i.toNat : Nat) : Int) := (Int.toNat_of_nonneg h0).symm
  rw [e]
  refine atI_nat ?_
  rw [abc_list, List.getElem?_map, List.getElem?_range (by omega)]
  rfl
end Lot
namespace Lot
open PySem PySem.Spec PyProof.Rows L2
theorem abc_cut : ∀ s : Nat, s < 26 → cutS abc (some (s : Int)) (some ((s : Int) + 1)) = ⟨#[97 + s]⟩ := by decide +kernel
theorem Abc.le2 {n m : Nat} {a b : Str} (h : Abc n a) (g : Abc m b) (l : n + m ≤ 1000) : a.length + b.length ≤ sizeLine := by
  rw [h.1, g.1]
  exact Nat.le_of_lt (small1000 l)
end Lot
/-! ### rules in a comprehension's block: what is written (K) said by the def's own name -/
namespace Lot
open PySem PySem.Spec PyProof.Rows L2
section
variable {X : Cx} {K : PySem.W.Frag}
theorem pe_bmK {T : String} {e : Expr} {to : TE} {t : TA} {r : V → List V → Hp → VK → Prop} (hK : X.K = K) (h : PE X e (tBM X.K T r to t)) : PE X e (tBM K T r to t) := hK ▸ h
def rJoinK (K : PySem.W.Frag) : V → List V → Hp → VK → Prop := fun x xs H Q => ∃ a p, ∃ ys : List Str, x = .str a ∧ xs = [.ref p] ∧ (SqL K H p (ys.map V.str) ∨ SqT K H p (ys.map V.str)) ∧
  (ys.map (·.length)).sum + ys.length * a.length ≤ 16777216 ∧ Q (.str (Txt.join a ys)) H
theorem pe_joinK {e : Expr} {to te : TE} (hK : X.K = K) (h : PE X e (tM1 (rJoinK X.K) to te)) : PE X e (tM1 (rJoinK K) to te) := hK ▸ h
theorem sl_listK (hK : X.K = K) : SlR X (rSlL K) := hK ▸ sl_list
theorem sl_tupK (hK : X.K = K) : SlR X (rSlT K) := hK ▸ sl_tup
def rLenK (K : PySem.W.Frag) : List V → Hp → VK → Prop := fun xs H Q => ∃ p ys, xs = [.ref p] ∧ (SqL K H p ys ∨ SqT K H p ys) ∧ Q (.int ys.length) H
theorem call_len_seqK (hK : X.K = K) : CallR X (.builtin "len") (rLenK K) := hK ▸ call_len_seq
theorem op_eqDK (hK : X.K = K) (hu : X.A.units + 64 < cLine) : OpR X (compareOp .Eq) (rEqD K) := hK ▸ op_eqD hu
theorem op_neDK (hK : X.K = K) (hu : X.A.units + 64 < cLine) : OpR X (compareOp .NotEq) (rNeD K) := hK ▸ op_neD hu
theorem ix_listK (hK : X.K = K) : IxR X (rIxL K) := hK ▸ ix_list
theorem ix_tupK (hK : X.K = K) : IxR X (rIxT K) := hK ▸ ix_tup
end
end Lot
namespace Lot
open PySem PySem.Spec PyProof.Rows L2
theorem seqIx {n r : Nat} (h : r < n) : seqIndex? (r : Int) n = some r := by
  refine (ixN_seq ?_).1
  unfold ixN
  rw [if_pos (by omega), if_pos (by omega)]
  rfl
end Lot

/-! Standings as texts: the mathematics. -/
namespace Lot
open PySem PySem.Spec PyProof.Rows L2
abbrev slash : Str := Str.ofString "/"
def Bd.edge (bd : Bd) (i : Nat) : Bool := match bd with
  | .floor _ w => decide (0 < i) && decide (i % w = 0)
  | _ => false
def dash (f : Nat) : Str := if f = 0 then "" else "-"
def word (th : Str × Nat) : Str := dash th.2 ++ th.1
def cellWords (bd : Bd) (i : Nat) (th : Str × Nat) : List Str := (if bd.edge i then [slash] else []) ++ [word th]
def wordsFrom (bd : Bd) : Nat → List (Str × Nat) → List Str
  | _, [] => []
  | i, th :: r => cellWords bd i th ++ wordsFrom bd (i + 1) r
theorem wordsFrom_app (bd : Bd) : ∀ (xs ys : List (Str × Nat)) (i : Nat), wordsFrom bd i (xs ++ ys) = wordsFrom bd i xs ++ wordsFrom bd (i + xs.length) ys
  | [], ys, i => by simp [wordsFrom]
  | x :: xs, ys, i => by
    show cellWords bd i x ++ wordsFrom bd (i + 1) (xs ++ ys) = (cellWords bd i x ++ wordsFrom bd (i + 1) xs) ++ _
    rw [wordsFrom_app bd xs ys (i + 1), List.append_assoc, List.length_cons]
    rw [show i + 1 + xs.length = i + (xs.length + 1) by omega]
theorem wordsFrom_take (bd : Bd) {ths : List (Str × Nat)} {i : Nat} {th : Str × Nat} (h : ths[i]? = some th) : wordsFrom bd 0 (ths.take (i + 1)) = wordsFrom bd 0 (ths.take i) ++ cellWords bd i th := by
  have hi : i < ths.length := (List.getElem?_eq_some_iff.mp h).1
  rw [List.take_add_one, h, wordsFrom_app]
  have e : (ths.take i).length = i := by rw [List.length_take]; omega
  rw [e, Nat.zero_add]
  show _ ++ (cellWords bd i th ++ []) = _
  rw [List.append_nil]
/-- the text of a standing -/
def textOf (bd : Bd) (ths : List (Str × Nat)) : Str := Str.join " " (wordsFrom bd 0 ths)
/-- names that stand: faces 0, 1 -/
def ThOk (th : Str × Nat) : Prop := NameOk th.1 ∧ th.2 < 2
theorem str_app_len (a b : Str) : (a ++ b).length = a.length + b.length := by
  show (a.cps ++ b.cps).size = _
  rw [Array.size_append]; rfl
theorem word_len {th : Str × Nat} (h : ThOk th) : (word th).length ≤ 5 := by
  have e : (word th).length = (dash th.2).length + th.1.length := str_app_len _ _
  have h1 : (dash th.2).length ≤ 1 := by
    unfold dash
    split <;> decide
  have := h.1.2.1
  omega
theorem words_ok (bd : Bd) : ∀ (ths : List (Str × Nat)) (i : Nat), (∀ th ∈ ths, ThOk th) → (∀ z ∈ wordsFrom bd i ths, z.length ≤ 5) ∧ (wordsFrom bd i ths).length ≤ 2 * ths.length
  | [], i, _ => ⟨(fun z hz => by cases hz), Nat.le_refl _⟩
  | th :: r, i, h => by
    have ih := words_ok bd r (i + 1) fun t ht => h t (List.mem_cons_of_mem _ ht)
    have hw := word_len (h th List.mem_cons_self)
    refine ⟨fun z hz => ?_, ?_⟩
    · rcases List.mem_append.mp hz with hz | hz
      · rcases List.mem_append.mp hz with hz | hz
        · split at hz
          · rw [List.mem_singleton.mp hz]; decide
          · cases hz
        · rw [List.mem_singleton.mp hz]; exact hw
      · exact ih.1 z hz
    · show (((if bd.edge i then [slash] else []) ++ [word th]) ++ wordsFrom bd (i + 1) r).length ≤ _
      rw [List.length_append, List.length_append]
      have h2 : (th :: r).length = r.length + 1 := rfl
      have : (if bd.edge i then ([slash] : List Str) else []).length ≤ 1 := by split <;> decide
      have h1 : [word th].length = 1 := rfl
      omega
theorem sum_len {ys : List Str} {m : Nat} (h : ∀ z ∈ ys, z.length ≤ m) : (ys.map (·.length)).sum ≤ ys.length * m := by
  induction ys with
  | nil => simp
  | cons y r ih =>
    have := ih fun z hz => h z (List.mem_cons_of_mem _ hz)
    have := h y List.mem_cons_self
    rw [List.map_cons, List.sum_cons, List.length_cons, Nat.succ_mul]
    omega
theorem join_fits {ys : List Str} {m n k : Nat} (h : ∀ z ∈ ys, z.length ≤ m) (hn : ys.length ≤ n) (c : n * m + n * k ≤ 16777216) : (ys.map (·.length)).sum + ys.length * k ≤ 16777216 := by
  have h1 := sum_len h
  have h2 : ys.length * m ≤ n * m := Nat.mul_le_mul_right m hn
  have h3 : ys.length * k ≤ n * k := Nat.mul_le_mul_right k hn
  omega
/-! ### rows -/
theorem app_assoc (a b c : Str) : a ++ b ++ c = a ++ (b ++ c) := by
  show (⟨a.cps ++ b.cps ++ c.cps⟩ : Str) = ⟨a.cps ++ (b.cps ++ c.cps)⟩
  rw [Array.append_assoc]
theorem join_cons2 (s x y : Str) (r : List Str) : Str.join s (x :: y :: r) = x ++ s ++ Str.join s (y :: r) := rfl
theorem join_app (s : Str) : ∀ {xs ys : List Str}, xs ≠ [] → ys ≠ [] → Str.join s (xs ++ ys) = Str.join s xs ++ (s ++ Str.join s ys)
  | [], _, h, _ => absurd rfl h
  | [x], [], _, h => absurd rfl h
  | [x], y :: r, _, _ => by
    show Str.join s (x :: y :: r) = x ++ (s ++ Str.join s (y :: r))
    rw [join_cons2, app_assoc]
  | x :: z :: xs, ys, _, h => by
    show Str.join s (x :: z :: (xs ++ ys)) = _
    rw [join_cons2, join_cons2]
    have := join_app s (xs := z :: xs) (ys := ys) (by simp) h
    rw [show z :: (xs ++ ys) = (z :: xs) ++ ys from rfl, this]
    simp only [app_assoc]
/-- rows of words, a / between two -/
def glued : List (List Str) → List Str
  | [] => []
  | [r] => r
  | r :: q :: rs => r ++ (slash :: glued (q :: rs))
theorem glued_ne : ∀ {rows : List (List Str)}, rows ≠ [] → (∀ r ∈ rows, r ≠ []) → glued rows ≠ []
  | [], h, _ => absurd rfl h
  | [r], _, h => h r List.mem_cons_self
  | r :: q :: rs, _, h => by
    show r ++ _ ≠ []
    simp
theorem join_glued : ∀ {rows : List (List Str)}, rows ≠ [] → (∀ r ∈ rows, r ≠ []) → Str.join " " (glued rows) = Str.join " / " (rows.map (Str.join " "))
  | [], h, _ => absurd rfl h
  | [r], _, h => rfl
  | r :: q :: rs, _, h => by
    have hr := h r List.mem_cons_self
    have ih := join_glued (rows := q :: rs) (by simp) fun x hx => h x (List.mem_cons_of_mem _ hx)
    have hg := glued_ne (rows := q :: rs) (by simp) fun x hx => h x (List.mem_cons_of_mem _ hx)
    show Str.join " " (r ++ (slash :: glued (q :: rs))) = Str.join " / " (Str.join " " r :: Str.join " " q :: rs.map (Str.join " "))
    rw [join_app _ hr (by simp), join_cons2]
    have e2 : Str.join " / " (Str.join " " q :: rs.map (Str.join " ")) = Str.join " " (glued (q :: rs)) := ih.symm
    rw [e2]
    cases hgl : glued (q :: rs) with
    | nil => exact absurd hgl hg
    | cons y ys =>
      rw [join_cons2]
      have e3 : (" / " : Str) = (" " : Str) ++ ("/" ++ " ") := by decide +kernel
      rw [e3]
      simp only [app_assoc]
/-- the rows of a board's words: row r is the words from r * w on, w of them -/
def rowsOf (h w : Nat) (ws : List Str) : List (List Str) := (List.range h).map fun r => (ws.drop (r * w)).take w
theorem mod_in {k w j : Nat} (hj : j < w) (h0 : 0 < j) : (k * w + j) % w = j := by
  rw [Nat.mul_comm, Nat.mul_add_mod]
  exact Nat.mod_eq_of_lt hj
/-- within a row no edge -/
theorem words_row {h w k : Nat} (hw : 0 < w) : ∀ (ths : List (Str × Nat)) (j : Nat), 0 < j → j + ths.length ≤ w → wordsFrom (.floor h w) (k * w + j) ths = ths.map word
  | [], _, _, _ => rfl
  | th :: r, j, h0, hl => by
    rw [List.length_cons] at hl
    have e : (Bd.floor h w).edge (k * w + j) = false := by
      show (decide _ && decide ((k * w + j) % w = 0)) = false
      rw [mod_in (by omega) h0, Bool.and_eq_false_iff]
      exact .inr (decide_eq_false (by omega))
    show ((if (Bd.floor h w).edge (k * w + j) then _ else _) ++ [word th]) ++ wordsFrom (.floor h w) (k * w + j + 1) r = _
    rw [e, show k * w + j + 1 = k * w + (j + 1) by omega, words_row (k := k) hw r (j + 1) (by omega) (by omega)]
    rfl
theorem words_line {h w k : Nat} (hw : 0 < w) (th : Str × Nat) (r : List (Str × Nat)) (hl : r.length + 1 ≤ w) :
    wordsFrom (.floor h w) (k * w) (th :: r) = (if 0 < k then [slash] else []) ++ ((th :: r).map word) := by
  show ((if (Bd.floor h w).edge (k * w) then _ else _) ++ [word th]) ++ wordsFrom (.floor h w) (k * w + 1) r = _
  rw [words_row (k := k) hw r 1 (by omega) (by omega)]
  have e : (Bd.floor h w).edge (k * w) = decide (0 < k) := by
    show (decide (0 < k * w) && decide (k * w % w = 0)) = _
    rw [Nat.mul_mod_left]
    by_cases c : 0 < k
    · rw [decide_eq_true c, decide_eq_true (Nat.mul_pos c hw)]; rfl
    · have : k = 0 := by omega
      subst this
      simp
  rw [e]
  by_cases c : 0 < k
  · rw [decide_eq_true c, if_pos rfl, if_pos c]; rfl
  · rw [decide_eq_false c, if_neg (by decide), if_neg c]; rfl
theorem words_glued {h w : Nat} (hw : 0 < w) : ∀ (n k : Nat) (ths : List (Str × Nat)), ths.length = (n + 1) * w →
    wordsFrom (.floor h w) (k * w) ths = (if 0 < k then [slash] else []) ++ glued (rowsOf (n + 1) w (ths.map word))
  | n, k, ths, hl => by
    have hlw : w ≤ ths.length := by rw [hl, Nat.succ_mul]; omega
    have es : ths = ths.take w ++ ths.drop w := (List.take_append_drop w ths).symm
    have el : (ths.take w).length = w := by rw [List.length_take]; omega
    have first : wordsFrom (.floor h w) (k * w) (ths.take w) = (if 0 < k then [slash] else []) ++ (ths.take w).map word := by
      cases e : ths.take w with
      | nil => rw [e] at el; simp at el; omega
      | cons th r =>
        rw [e] at el
        exact words_line hw th r (by rw [List.length_cons] at el; omega)
    cases n with
    | zero =>
      have e0 : ths.take w = ths := List.take_of_length_le (by rw [hl]; omega)
      rw [e0] at first
      rw [first]
      congr 1
      show ths.map word = ((ths.map word).drop (0 * w)).take w
      rw [Nat.zero_mul, List.drop_zero, ← List.map_take, e0]
    | succ n =>
      have ih := words_glued (h := h) hw n (k + 1) (ths.drop w) (by rw [List.length_drop, hl, Nat.succ_mul (n + 1)]; omega)
      have er : rowsOf (n + 1 + 1) w (ths.map word) = (ths.take w).map word :: rowsOf (n + 1) w ((ths.drop w).map word) := by
        unfold rowsOf
        rw [List.range_succ_eq_map, List.map_cons, List.map_map]
        congr 1
        · rw [Nat.zero_mul, List.drop_zero, List.map_take]
        · refine List.map_congr_left fun r _ => ?_
          show ((ths.map word).drop ((r + 1) * w)).take w = (((ths.drop w).map word).drop (r * w)).take w
          rw [List.map_drop, List.drop_drop, Nat.succ_mul, Nat.add_comm (r * w) w]
      conv => lhs; rw [es, wordsFrom_app, el, show k * w + w = (k + 1) * w from (Nat.succ_mul k w).symm]
      rw [first, ih, if_pos (Nat.succ_pos k), er, List.append_assoc]
      congr 1
      cases e : rowsOf (n + 1) w ((ths.drop w).map word) with
      | nil =>
        unfold rowsOf at e
        rw [List.map_eq_nil_iff, List.range_eq_nil] at e
        omega
      | cons q rs => rfl
theorem words_plain (bd : Bd) (hb : ∀ i, bd.edge i = false) : ∀ (ths : List (Str × Nat)) (i : Nat), wordsFrom bd i ths = ths.map word
  | [], _ => rfl
  | th :: r, i => by
    show ((if bd.edge i then _ else _) ++ [word th]) ++ wordsFrom bd (i + 1) r = _
    rw [hb, words_plain bd hb r (i + 1)]
    rfl
theorem shown_is {bd : Bd} {ths : List (Str × Nat)} (ok : bd.Ok 36) (hl : ths.length = bd.cells) :
    Str.join " / " ((rowsOf bd.high bd.wide (ths.map word)).map (Str.join " ")) = textOf bd ths := by
  unfold textOf
  have plain : ∀ n, bd.high = 1 → bd.wide = n → (∀ i, bd.edge i = false) → bd.cells = n → Str.join " / " ((rowsOf bd.high bd.wide (ths.map word)).map (Str.join " ")) = Str.join " " (wordsFrom bd 0 ths) := fun n e1 e2 e3 e4 => by
    rw [e1, e2, words_plain bd e3]
    show Str.join " / " [Str.join " " (((ths.map word).drop (0 * n)).take n)] = _
    rw [Nat.zero_mul, List.drop_zero, List.take_of_length_le (by rw [List.length_map, hl, e4]; exact Nat.le_refl _)]
    rfl
  cases bd with
  | row n => exact plain n rfl rfl (fun _ => rfl) (Nat.one_mul n)
  | ring n => exact plain n rfl rfl (fun _ => rfl) (Nat.one_mul n)
  | floor h w =>
    obtain ⟨o1, o2, o3⟩ := ok
    obtain ⟨n, rfl⟩ : ∃ n, h = n + 1 := ⟨h - 1, by omega⟩
    have := words_glued (h := n + 1) o2 n 0 ths hl
    rw [Nat.zero_mul, if_neg (by decide), List.nil_append] at this
    rw [this]
    show Str.join " / " ((rowsOf (n + 1) w (ths.map word)).map (Str.join " ")) = _
    refine (join_glued ?_ ?_).symm
    · unfold rowsOf
      simp
    · intro r hr
      unfold rowsOf at hr
      obtain ⟨k, hk, rfl⟩ := List.mem_map.mp hr
      have hk' : k < n + 1 := List.mem_range.mp hk
      intro e
      have : (List.take w (List.drop (k * w) (ths.map word))).length = 0 := by rw [e]; rfl
      rw [List.length_take, List.length_drop, List.length_map, hl] at this
      have h2 : (k + 1) * w ≤ (n + 1) * w := Nat.mul_le_mul_right w hk'
      have h3 : (Bd.floor (n + 1) w).cells = (n + 1) * w := rfl
      rw [Nat.succ_mul] at h2
      omega
end Lot
namespace Lot
open PySem PySem.Spec PyProof.Rows L2
theorem join_len (s : Str) : ∀ ys : List Str, (Str.join s ys).length ≤ (ys.map (·.length)).sum + ys.length * s.length
  | [] => Nat.zero_le _
  | [x] => by
    show x.length ≤ (x.length + 0) + _
    omega
  | x :: y :: r => by
    have ih := join_len s (y :: r)
    rw [join_cons2, str_app_len, str_app_len, List.map_cons, List.sum_cons, List.length_cons, Nat.succ_mul]
    omega
theorem join_le {s : Str} {ys : List Str} {m n k : Nat} (h : ∀ z ∈ ys, z.length ≤ m) (hn : ys.length ≤ n) (hs : s.length ≤ k) : (Str.join s ys).length ≤ n * m + n * k := by
  have h0 := join_len s ys
  have h1 := sum_len h
  have h2 : ys.length * m ≤ n * m := Nat.mul_le_mul_right m hn
  have h3 : ys.length * s.length ≤ n * k := Nat.mul_le_mul hn hs
  omega
end Lot

/-! Texts read: the mathematics. -/
namespace Lot
open PySem PySem.Spec PyProof.Rows L2
def isName (z : Str) : Bool := (decide (1 ≤ z.length) && decide (z.length ≤ 4)) && z.cps.toList.all fun c => decide (c ∈ abc.cps.toList)
def minus : Str := Str.ofString "-"
/-- a word taken for a thing -/
def thingOf (z : Str) : Str × Nat := if Txt.startswith z minus = true then (cutS z (some 1) none, 1) else (z, 0)
def isDue (z : Str) (at' wide : Nat) : Bool := if at' % (wide + 1) = wide then decide (z = slash) else isName (thingOf z).1
theorem mem_abc {c : Nat} : c ∈ abc.cps.toList ↔ 97 ≤ c ∧ c ≤ 122 := by
  rw [abc_list, List.mem_map]
  constructor
  · rintro ⟨a, ha, rfl⟩
    have := List.mem_range.mp ha
    omega
  · rintro ⟨h1, h2⟩
    exact ⟨c - 97, List.mem_range.mpr (by omega), by omega⟩
theorem isName_iff {z : Str} : isName z = true ↔ NameOk z := by
  unfold isName NameOk
  rw [Bool.and_eq_true, Bool.and_eq_true, List.all_eq_true]
  constructor
  · rintro ⟨⟨h1, h2⟩, h3⟩
    exact ⟨of_decide_eq_true h1, of_decide_eq_true h2, fun c hc => mem_abc.mp (of_decide_eq_true (h3 c hc))⟩
  · rintro ⟨h1, h2, h3⟩
    exact ⟨⟨decide_eq_true h1, decide_eq_true h2⟩, fun c hc => decide_eq_true (mem_abc.mpr (h3 c hc))⟩
theorem str_ext {a b : Str} (h : a.cps.toList = b.cps.toList) : a = b := by
  obtain ⟨a⟩ := a
  obtain ⟨b⟩ := b
  exact congrArg Str.mk (Array.toList_inj.mp h)
theorem minus_is : minus = ⟨#[45]⟩ := by decide +kernel
theorem starts_iff {z : Str} : Txt.startswith z minus = true ↔ z.cps.toList[0]? = some 45 := by
  unfold Txt.startswith Builtin.Str.subAt
  rw [minus_is]
  obtain ⟨⟨l⟩⟩ := z
  cases l with
  | nil => simp [Str.length]
  | cons c r => simp [Str.length]
theorem cut_one (z : Str) : cutS z (some 1) none = ⟨(z.cps.toList.drop 1).toArray⟩ := by
  unfold cutS
  have e1 : HT.sIx z.length 0 (some 1) = min 1 z.length := HT.sIx_nat z.length 0 1
  rw [e1, HT.sIx_none]
  have hl : z.length = z.cps.toList.length := by simp [Str.length]
  rw [hl]
  congr 2
  cases z.cps.toList with
  | nil => rfl
  | cons x r =>
    rw [show min 1 (x :: r).length = 1 by rw [List.length_cons]; omega]
    show List.take ((x :: r).length - 1) r = r
    rw [List.length_cons, Nat.add_sub_cancel]
    exact List.take_length
theorem nil_app (z : Str) : (Str.ofString "" ++ z) = z := by
  have e : Str.ofString "" = ⟨#[]⟩ := by decide +kernel
  rw [e]
  show (⟨#[] ++ z.cps⟩ : Str) = z
  rw [Array.empty_append]
theorem word_up {th : Str × Nat} (h : th.2 = 0) : word th = th.1 := by
  unfold word dash
  rw [if_pos h, nil_app]
theorem word_down {th : Str × Nat} (h : th.2 ≠ 0) : (word th).cps.toList = 45 :: th.1.cps.toList := by
  unfold word dash
  rw [if_neg h]
  show ((Str.ofString "-").cps ++ th.1.cps).toList = _
  rw [Array.toList_append]
  have e : (Str.ofString "-").cps.toList = [45] := by decide +kernel
  rw [e]
  rfl
theorem name_first {z : Str} (h : NameOk z) : ∃ c r, z.cps.toList = c :: r ∧ 97 ≤ c ∧ c ≤ 122 := by
  cases e : z.cps.toList with
  | nil =>
    have h1 := h.1
    have : z.length = 0 := by
      show z.cps.size = 0
      rw [← Array.length_toList, e]; rfl
    omega
  | cons c r => exact ⟨c, r, rfl, h.2.2 c (by rw [e]; exact List.mem_cons_self)⟩
theorem thing_word {th : Str × Nat} (h : ThOk th) : thingOf (word th) = th := by
  obtain ⟨c, r, ec, c1, c2⟩ := name_first h.1
  unfold thingOf
  by_cases f : th.2 = 0
  · rw [word_up f, if_neg (fun z => by
      rw [starts_iff, ec] at z
      have : c = 45 := Option.some.inj z
      omega)]
    rw [← f]
  · have e := word_down f
    rw [if_pos (starts_iff.mpr (by rw [e]; rfl)), cut_one, e]
    have : th.2 = 1 := by have := h.2; omega
    refine Prod.ext ?_ this.symm
    show (⟨th.1.cps.toList.toArray⟩ : Str) = th.1
    rw [Array.toArray_toList]
theorem word_ne_slash {th : Str × Nat} (h : ThOk th) : word th ≠ slash := fun e => by
  have e2 := thing_word h
  rw [e] at e2
  have e3 : thingOf slash = (slash, 0) := by decide +kernel
  rw [e3] at e2
  have h1 := h.1
  rw [← e2] at h1
  have : 97 ≤ 47 := (h1.2.2 47 (by decide +kernel)).1
  omega
theorem word_no_blank {th : Str × Nat} (h : ThOk th) : 32 ∉ (word th).cps.toList := fun hm => by
  by_cases f : th.2 = 0
  · rw [word_up f] at hm
    have := (h.1.2.2 32 hm).1
    omega
  · rw [word_down f] at hm
    rcases List.mem_cons.mp hm with e | hm
    · exact absurd e (by decide)
    · have := (h.1.2.2 32 hm).1
      omega
/-! ### rows glued -/
theorem glued_len {w : Nat} : ∀ {rows : List (List Str)}, rows ≠ [] → (∀ r ∈ rows, r.length = w) → (glued rows).length + 1 = rows.length * (w + 1)
  | [], h, _ => absurd rfl h
  | [r], _, h => by
    show r.length + 1 = 1 * (w + 1)
    rw [h r List.mem_cons_self, Nat.one_mul]
  | r :: q :: rs, _, h => by
    have ih := glued_len (rows := q :: rs) (by simp) fun x hx => h x (List.mem_cons_of_mem _ hx)
    show (r ++ (slash :: glued (q :: rs))).length + 1 = _
    rw [List.length_append, List.length_cons, h r List.mem_cons_self, List.length_cons, Nat.succ_mul]
    omega
theorem glued_due {w : Nat} : ∀ {rows : List (List Str)} {j : Nat} {z : Str}, (∀ r ∈ rows, r.length = w) → (glued rows)[j]? = some z → if j % (w + 1) = w then z = slash else ∃ r ∈ rows, z ∈ r
  | [], j, z, _, e => by simp [glued] at e
  | [r], j, z, h, e => by
    have e' : r[j]? = some z := e
    have hj := (List.getElem?_eq_some_iff.mp e').1
    rw [h r List.mem_cons_self] at hj
    rw [if_neg (by rw [Nat.mod_eq_of_lt (by omega)]; omega)]
    exact ⟨r, List.mem_cons_self, List.mem_of_getElem? e'⟩
  | r :: q :: rs, j, z, h, e => by
    have hr := h r List.mem_cons_self
    have e' : (r ++ (slash :: glued (q :: rs)))[j]? = some z := e
    by_cases c : j < w
    · rw [List.getElem?_append_left (by omega)] at e'
      rw [if_neg (by rw [Nat.mod_eq_of_lt (by omega)]; omega)]
      exact ⟨r, List.mem_cons_self, List.mem_of_getElem? e'⟩
    · rw [List.getElem?_append_right (by omega), hr] at e'
      by_cases c2 : j = w
      · subst c2
        rw [Nat.sub_self] at e'
        rw [if_pos (Nat.mod_eq_of_lt (by omega))]
        exact (Option.some.inj e').symm
      · obtain ⟨k, rfl⟩ : ∃ k, j = (w + 1) + k := ⟨j - (w + 1), by omega⟩
        rw [show w + 1 + k - w = k + 1 by omega, List.getElem?_cons_succ] at e'
        have ih := glued_due (rows := q :: rs) (fun x hx => h x (List.mem_cons_of_mem _ hx)) e'
        rw [Nat.add_mod_left]
        split
        · next c3 => rw [if_pos c3] at ih; exact ih
        · next c3 =>
          rw [if_neg c3] at ih
          obtain ⟨x, hx, hz⟩ := ih
          exact ⟨x, List.mem_cons_of_mem _ hx, hz⟩
theorem glued_filter : ∀ {rows : List (List Str)}, (∀ r ∈ rows, ∀ z ∈ r, z ≠ slash) → (glued rows).filter (fun z => !decide (z = slash)) = rows.flatten
  | [], _ => rfl
  | [r], h => by
    show r.filter _ = [r].flatten
    rw [List.flatten_singleton, List.filter_eq_self.mpr]
    intro z hz
    rw [decide_eq_false (h r List.mem_cons_self z hz)]; rfl
  | r :: q :: rs, h => by
    have ih := glued_filter (rows := q :: rs) fun x hx => h x (List.mem_cons_of_mem _ hx)
    have hr : r.filter (fun z => !decide (z = slash)) = r := List.filter_eq_self.mpr fun z hz => by
      rw [decide_eq_false (h r List.mem_cons_self z hz)]; rfl
    show (r ++ (slash :: glued (q :: rs))).filter _ = (r :: q :: rs).flatten
    rw [List.filter_append, hr, List.filter_cons_of_neg (by simp), ih]
    rfl
theorem rows_flat {w : Nat} : ∀ (h : Nat) (ws : List Str), ws.length = h * w → (rowsOf h w ws).flatten = ws
  | 0, ws, e => by
    rw [Nat.zero_mul] at e
    rw [List.eq_nil_of_length_eq_zero e]
    rfl
  | h + 1, ws, e => by
    have ih := rows_flat (w := w) h (ws.drop w) (by rw [List.length_drop, e, Nat.succ_mul]; omega)
    have er : rowsOf (h + 1) w ws = ws.take w :: rowsOf h w (ws.drop w) := by
      unfold rowsOf
      rw [List.range_succ_eq_map, List.map_cons, List.map_map]
      congr 1
      · rw [Nat.zero_mul, List.drop_zero]
      · refine List.map_congr_left fun r _ => ?_
        show (ws.drop ((r + 1) * w)).take w = ((ws.drop w).drop (r * w)).take w
        rw [List.drop_drop, Nat.succ_mul, Nat.add_comm (r * w) w]
    rw [er, List.flatten_cons, ih, List.take_append_drop]
theorem rows_each {h w : Nat} {ws : List Str} (e : ws.length = h * w) : ∀ r ∈ rowsOf h w ws, r.length = w ∧ ∀ z ∈ r, z ∈ ws := by
  intro r hr
  unfold rowsOf at hr
  obtain ⟨k, hk, rfl⟩ := List.mem_map.mp hr
  have hk' := List.mem_range.mp hk
  have h2 : (k + 1) * w ≤ h * w := Nat.mul_le_mul_right w hk'
  rw [Nat.succ_mul] at h2
  refine ⟨?_, fun z hz => List.mem_of_mem_drop (List.mem_of_mem_take hz)⟩
  rw [List.length_take, List.length_drop, e]
  omega
theorem words_is {bd : Bd} {ths : List (Str × Nat)} (ok : bd.Ok 36) (hl : ths.length = bd.cells) : wordsFrom bd 0 ths = glued (rowsOf bd.high bd.wide (ths.map word)) := by
  have plain : ∀ n, bd.high = 1 → bd.wide = n → (∀ i, bd.edge i = false) → bd.cells = n → wordsFrom bd 0 ths = glued (rowsOf bd.high bd.wide (ths.map word)) := fun n e1 e2 e3 e4 => by
    rw [e1, e2, words_plain bd e3]
    show _ = ((ths.map word).drop (0 * n)).take n
    rw [Nat.zero_mul, List.drop_zero, List.take_of_length_le (by rw [List.length_map, hl, e4]; exact Nat.le_refl _)]
  cases bd with
  | row n => exact plain n rfl rfl (fun _ => rfl) (Nat.one_mul n)
  | ring n => exact plain n rfl rfl (fun _ => rfl) (Nat.one_mul n)
  | floor h w =>
    obtain ⟨o1, o2, o3⟩ := ok
    obtain ⟨n, rfl⟩ : ∃ n, h = n + 1 := ⟨h - 1, by omega⟩
    have := words_glued (h := n + 1) o2 n 0 ths hl
    rw [Nat.zero_mul, if_neg (by decide), List.nil_append] at this
    exact this
theorem Bd.pos {bd : Bd} (ok : bd.Ok 36) : 1 ≤ bd.high ∧ 1 ≤ bd.wide := by
  cases bd with
  | row n => exact ⟨Nat.le_refl _, by have := ok.1; show 1 ≤ n; omega⟩
  | ring n => exact ⟨Nat.le_refl _, by have := ok.1; show 1 ≤ n; omega⟩
  | floor h w => exact ⟨ok.1, ok.2.1⟩
/-- the words of a standing are due, are as many as are due, and tell its things -/
theorem words_due {bd : Bd} {ths : List (Str × Nat)} (ok : bd.Ok 36) (hl : ths.length = bd.cells) (hok : ∀ th ∈ ths, ThOk th) :
    (∀ j z, (wordsFrom bd 0 ths)[j]? = some z → isDue z j bd.wide = true) ∧ (wordsFrom bd 0 ths).length + 1 = bd.high * (bd.wide + 1) ∧
      ((wordsFrom bd 0 ths).filter fun z => !decide (z = slash)).map thingOf = ths := by
  have hp := Bd.pos ok
  have hwl : (ths.map word).length = bd.high * bd.wide := by rw [List.length_map, hl]; rfl
  have hrows := rows_each hwl
  have hword : ∀ z ∈ ths.map word, ∃ th ∈ ths, z = word th := fun z hz => by
    obtain ⟨th, h1, h2⟩ := List.mem_map.mp hz
    exact ⟨th, h1, h2.symm⟩
  rw [words_is ok hl]
  refine ⟨fun j z e => ?_, ?_, ?_⟩
  · have := glued_due (fun r hr => (hrows r hr).1) e
    unfold isDue
    split
    · next c => rw [if_pos c] at this; exact decide_eq_true this
    · next c =>
      rw [if_neg c] at this
      obtain ⟨r, hr, hz⟩ := this
      obtain ⟨th, h1, rfl⟩ := hword z ((hrows r hr).2 z hz)
      rw [thing_word (hok th h1)]
      exact isName_iff.mpr (hok th h1).1
  · have hne : rowsOf bd.high bd.wide (ths.map word) ≠ [] := fun e => by
      unfold rowsOf at e
      rw [List.map_eq_nil_iff, List.range_eq_nil] at e
      omega
    have := glued_len (w := bd.wide) hne fun r hr => (hrows r hr).1
    rw [this]
    unfold rowsOf
    rw [List.length_map, List.length_range]
  · rw [glued_filter, rows_flat bd.high _ hwl, List.map_map]
    · rw [List.map_congr_left (g := id), List.map_id]
      intro th hth
      exact thing_word (hok th hth)
    · intro r hr z hz
      obtain ⟨th, h1, rfl⟩ := hword z ((hrows r hr).2 z hz)
      exact word_ne_slash (hok th h1)
/-- the text of a standing, split -/
theorem text_split {bd : Bd} {ths : List (Str × Nat)} (hne : ths ≠ []) (hok : ∀ th ∈ ths, ThOk th) : Txt.split (textOf bd ths) (Str.ofString " ") = wordsFrom bd 0 ths := by
  unfold textOf
  have e : TL.tl (Str.ofString " ") = 32 :: [] := by decide +kernel
  rw [← TL.join_eq]
  refine TL.split_join e (by decide +kernel) ?_ ?_
  · cases ths with
    | nil => exact absurd rfl hne
    | cons th r =>
      show cellWords bd 0 th ++ _ ≠ []
      unfold cellWords
      simp
  · have : ∀ (l : List (Str × Nat)) (i : Nat), (∀ th ∈ l, ThOk th) → ∀ p ∈ wordsFrom bd i l, 32 ∉ TL.tl p := by
      intro l
      induction l with
      | nil => intro i _ p hp; cases hp
      | cons th r ih =>
        intro i h p hp
        rcases List.mem_append.mp hp with hp | hp
        · rcases List.mem_append.mp hp with hp | hp
          · split at hp
            · rw [List.mem_singleton.mp hp]; decide +kernel
            · cases hp
          · rw [List.mem_singleton.mp hp]
            exact word_no_blank (h th List.mem_cons_self)
        · exact ih (i + 1) (fun t ht => h t (List.mem_cons_of_mem _ ht)) p hp
    exact this ths 0 hok
end Lot

/-! repr of data: exact where nothing is being shown already (no guards stand around); a def called there; a row's law called from outside. -/
namespace Lot
open PySem PySem.Spec PyProof.Rows L2
/-- what a def does where nothing is being shown -/
def GRun (P : Program) (w : World) (K : PySem.W.Frag) (mg : Str → Option Value) (base : Heap) (CX : CXT) (k : Nat) (f : Addr) (fd : FuncData) (ps : List Str) (sp : Sp) : Prop :=
  ∀ (A : Around) (outer : List Env) (s : Shared) (H : Hp) (args : Args) (us : List Value) (vs : List V) (Q : VK) (E : XK),
    A.guards = some [] → Room k A → Env0 P w K mg base A outer s H → BindsTo s fd args (ps.zip us) → Vals vs us → sp vs H Q E →
      codeAny (model P w) A (.call (.ref f) args) (CR CX outer P w H s Q E) s
/-- repr of a thing that is data -/
def rReprD (K : PySem.W.Frag) : List V → Hp → VK → Prop := fun xs H Q => ∃ (a : Addr) (d : PyData), xs = [.ref a] ∧ Dp K H (.ref a) d ∧ d.showable = true ∧ d.hasDict = false ∧ d.depth ≤ 50 ∧ d.shown.length ≤ sizeLine ∧ Q (.str d.shown) H
theorem call_reprD {X : Cx} {k : Nat} (hG : X.A.guards = some []) (hr : Room k X.A) : CallR X (.builtin "repr") (rReprD X.K) := by
  intro pins s σ H xs us Q I r h
  obtain ⟨a, d, rfl, hd, h1, h2, h3, h4, q⟩ := h
  obtain ⟨u, rfl, ru⟩ := vals1 r
  obtain ⟨as, rd⟩ := Dp.reads I d _ u hd ru
  cases ru
  have un := hr.units
  exact repr_of_reads' rd h1 (fun z => by rw [h2] at z; cases z) hG (by omega) (fun _ _ e => e) (fun h' u tk kp => ⟨.str d.shown, H, I.kept kp, ⟨u, rfl⟩, q⟩) h4
section
variable {CX : CXT} {P : Program} {w : World} {K : PySem.W.Frag} {mg : Str → Option Value} {base : Heap}
theorem g_of {k : Nat} {f : Addr} {x qual : Str} {st : Stmt} {fd : FuncData} {N ps : List Str} {sp : Sp} (F : Fun K x qual st f fd) (S : FnScope N ps (defScope st)) (len : ∀ vs H Q E, sp vs H Q E → vs.length = ps.length)
    (body : ∀ (cdv : Value) (A : Around) (outer : List Env) (s : Shared) (H : Hp) (vs : List V) (Q : VK) (E : XK), A.guards = some [] → Room k (A.deeper (envOfC qual (defScope st) s.heap.objs.size f cdv)) → sp vs H Q E →
      ∃ t, PSs (cxOf CX P w K mg base N qual (defScope st) f cdv A outer s H E) (defBody st) t ∧ t { nx := fun _ H' => Q .non H', rt := Q } (start N vs) H) :
    GRun P w K mg base CX (k + 1) f fd ps sp := by
  intro A outer s H args us vs Q E hG hr e0 hb rv hsp
  obtain ⟨oc, od, kV, doc, pm, an, cdv, ct, osl, rfl, lk, hcd⟩ := F.ex
  have n1 := len _ _ _ _ hsp
  have inS : ∀ b o, base.get? b = some o → s.heap.get? b = some o := fun b o e => (e0.bs b o e).1
  have KS : K.In s.heap := e0.mod.kin.keeps inS
  have LS : s.heap.NoLimit := e0.mod.nolimit.keeps inS
  refine codeAny_call_function hr.depth (KS _ _ lk) rfl S.co S.gen rfl (PySem.W.codeRec_of KS hcd) (hb _ _ _ _ ?_)
  have kinds : ∀ y ∈ ps.zip us, (defScope st).names.lookup y.1 = some .local ∨ ((defScope st).names.lookup y.1 = some .cell ∧ ((cellsFrom (s.heap.objs.size + 1) (defScope st).names []).lookup y.1).isSome = true) := by
    rintro ⟨n, v⟩ hy
    have hp := S.par n (List.of_mem_zip hy).1
    exact hp.imp_right fun c => ⟨c, PySem.W.cellsFrom_some _ _ _ (.inl c)⟩
  refine wpAny_newFunctionEnv_cells S.kind kinds fun env he s1 x => ?_
  subst he
  obtain ⟨t, ht, hq⟩ := body cdv A outer s H vs Q E hG (hr.deeper _) hsp
  have I := inv_start (CX := CX) (E := E) S hr.hd e0 n1 rv x
  refine ⟨LS.keeps x.toInCall.keep, codeAny_func (wpAny_mono (ht.run [] s1 (start N vs) H _ I hq) (fun fl s2 hs => ?_) fun _ _ z => z)⟩
  match fl, hs with
  | .ret u, ⟨v, σ2, H2, J, rv2, q⟩ => exact ⟨v, H2, J.os, J.bare, J.base, J.hok, rv2, q⟩
  | .next, ⟨σ2, H2, J, q⟩ => exact ⟨V.non, H2, J.os, J.bare, J.base, J.hok, rfl, q⟩
  | .brk, ⟨_, _, _, q⟩ => exact q.elim
  | .cont, ⟨_, _, _, q⟩ => exact q.elim
/-- the same of a def that lets nothing out -/
theorem g_ok {k : Nat} {f : Addr} {x qual : Str} {st : Stmt} {fd : FuncData} {N ps : List Str} {sp : Sp} (F : Fun K x qual st f fd) (S : FnScope N ps (defScope st)) (len : ∀ vs H Q E, sp vs H Q E → vs.length = ps.length)
    (body : ∀ (cdv : Value) (A : Around) (outer : List Env) (s : Shared) (H : Hp) (vs : List V) (Q : VK) (E : XK), A.guards = some [] → Room k (A.deeper (envOfC qual (defScope st) s.heap.objs.size f cdv)) → sp vs H Q E →
      ∃ t, PSs (cxOf CX0 P w K mg base N qual (defScope st) f cdv A outer s H E).nox (defBody st) t ∧ t { nx := fun _ H' => Q .non H', rt := Q } (start N vs) H) :
    GRun P w K mg base CX0 (k + 1) f fd ps sp :=
  g_of F S len fun cdv A outer s H vs Q E hG hr hs => by
    obtain ⟨t, h, q⟩ := body cdv A outer s H vs Q E hG hr hs
    exact ⟨t, h.nox, q⟩
end
end Lot
namespace Lot
open PySem PySem.Spec PyProof.Rows L2
section
variable {CX : CXT} {P : Program} {w : World} {K : PySem.W.Frag} {mg mb : Str → Option Value}
/-- what is tracked as a row's law is called: the script, if it is no object of the module's own -/
def onlyScript (K : PySem.W.Frag) (a : Addr) (o : Obj) (xs : List V) : Hp := fun b => if b = a ∧ K.lookup a = none then some (.frz o (.lst xs)) else none
theorem onlyScript_some {a b : Addr} {o : Obj} {xs : List V} {u : HO} (h : onlyScript K a o xs b = some u) : b = a ∧ K.lookup a = none ∧ u = .frz o (.lst xs) := by
  unfold onlyScript at h
  by_cases c : b = a ∧ K.lookup a = none
  · rw [if_pos c] at h
    exact ⟨c.1, c.2, (Option.some.inj h).symm⟩
  · rw [if_neg c] at h
    cases h
theorem row_call {fa a : Addr} {s : Shared} {vs : List Value} {ns : List Int} (KS : K.In s.heap) (gS : s.heap.Ns mainGlobals mg) (bS : s.heap.Ns builtinsNs mb) (bb : ∀ x : Str, x ≠ "__name__" → mb x = bootBuiltins x) (lS : s.heap.NoLimit) (gens : s.gens = #[])
    (at_a : s.heap.get? a = some { cls := .type "list", data := .seq vs.toArray }) (hi : IntsAre vs ns) (few : ns.length ≤ sizeLine)
    (run : ∀ base H, K.In base → base.Ns mainGlobals mg → Only H → SqL K H a (ns.map V.int) → Env0 P w K mg base callerA [] s H →
      codeAny (model P w) callerA (.call (.ref fa) ⟨[.ref a], []⟩) (CR CX [] P w H s (fun v _ => v = .bl true) fun _ _ _ => False) s)
    (noX : ∀ H e s', CX [] H s (fun _ _ _ => False) e s' → False) :
    codeAny (model P w) callerA (.call (.ref fa) ⟨[.ref a], []⟩) (fun r s' => r = .ok (.ret (.bool true)) ∧ OldK s.heap s'.heap ∧ s'.os = s.os ∧ AllBare s'.gens) s := by
  have rv := vals_ints hi
  have same := hi.length
  obtain ⟨o, ho⟩ : ∃ o : Obj, o = { cls := .type "list", data := .seq vs.toArray } := ⟨_, rfl⟩
  rw [← ho] at at_a
  obtain ⟨H, hH⟩ : ∃ H, H = onlyScript K a o (ns.map V.int) := ⟨_, rfl⟩
  have told : ∀ {b u}, H b = some u → b = a ∧ K.lookup a = none ∧ u = .frz o (.lst (ns.map V.int)) := fun {b u} e => by
    rw [hH] at e
    exact onlyScript_some e
  have only : Only H := fun b => by
    cases e : H b with
    | none => exact .inl rfl
    | some u =>
      obtain ⟨_, _, rfl⟩ := told e
      exact .inr ⟨_, _, rfl⟩
  have hok : HOk P w H s.heap := fun b u e => by
    obtain ⟨rfl, _, rfl⟩ := told e
    subst ho
    exact ⟨at_a, by rw [List.length_map]; exact few, vs, _, rv, at_a⟩
  have list : SqL K H a (ns.map V.int) := by
    cases e : K.lookup a with
    | none => exact .inl (.inr ⟨o, by rw [hH]; unfold onlyScript; rw [if_pos ⟨rfl, e⟩]⟩)
    | some o2 =>
      have e2 := KS a o2 e
      rw [at_a] at e2
      cases e2
      subst ho
      exact .inr ⟨_, vs.toArray, _, e, rfl, rfl, rfl, by rw [List.size_toArray, same]; exact few, by simpa using rv⟩
  have untold : ∀ {b : Addr} {u : Obj}, s.heap.get? b = some u → (K.lookup b = some u ∨ ∃ es ep, u.data = .dict es ep) → H b = none := fun {b u} e c => by
    cases q : H b with
    | none => rfl
    | some t =>
      obtain ⟨rfl, k, _⟩ := told q
      rcases c with c | ⟨es, ep, c⟩
      · rw [k] at c; cases c
      · rw [at_a] at e
        cases e
        subst ho
        cases c
  have names : ∀ {b : Addr} {m : Str → Option Value}, s.heap.Ns b m → (hidT s.heap H).Ns b m := fun {b m} ⟨u, es, ep, e, d, r⟩ => ⟨u, es, ep, hidT_get e (untold e (.inr ⟨es, ep, d⟩)), d, r⟩
  have KB : K.In (hidT s.heap H) := fun b u e => hidT_get (KS b u e) (untold (KS b u e) (.inl e))
  have mod : Mod K mg (hidT s.heap H) := ⟨KB, names gS, ⟨mb, names bS, bb⟩, by obtain ⟨mc, h1, h2⟩ := lS; exact ⟨mc, names h1, h2⟩⟩
  have e0 : Env0 P w K mg (hidT s.heap H) callerA [] s H := ⟨rfl, mod, fun b u e => of_hidT e, Nat.le_of_eq (hidT_size _ _), trivial, fun b hb => (List.not_mem_nil hb).elim, hok, .of_eq gens⟩
  refine codeAny_mono (run _ H KB (names gS) only list e0) fun r s' h => ?_
  match r, h with
  | .error e, h => exact (noX H e s' h).elim
  | .ok .next, h => exact h.elim
  | .ok .brk, h => exact h.elim
  | .ok .cont, h => exact h.elim
  | .ok (.ret u), ⟨v, H', os, bare, un, hok', r', q⟩ =>
    obtain rfl : v = .bl true := q
    obtain rfl : u = Value.bool true := r'
    refine ⟨rfl, OldK.of_keep fun b u e => ?_, os, bare⟩
    cases q : H b with
    | none => exact un.keep b u e q (fun z => (List.not_mem_nil (show b ∈ ([] : List Addr) from z)).elim) (fun z => (List.not_mem_nil z).elim)
    | some t =>
      obtain ⟨rfl, _, rfl⟩ := told q
      have k := un.frzs b o _ q
      obtain ⟨e1, _⟩ := hok b _ q
      obtain ⟨e2, _⟩ := hok' b _ k
      rw [e] at e1
      cases e1
      exact e2
end
/-- a row's law by what its def does where nothing is being shown -/
theorem walk_g {l : PySem.W.OpenLaw} {n k : Nat} {q : Program} {loose : List Str} {XP : (Str → Option Value) → Heap → Prop} {YP : World → Heap → Prop} {d : DefRec} {K : Params → PySem.W.Frag} {CX : World → CXT} {sp : World → Sp} {x : Str}
    (hn : l.most = some n) (hn2 : n ≤ sizeLine) (hdf : d.params.defaults = []) (hr : Room k callerA) (hY : ∀ w h, YP w h → (K w.params).In h)
    (F : ∀ (w : World) (mg : Str → Option Value) (fa : Addr) (h : Heap), (K w.params).In h → h.Ns mainGlobals mg → mg d.name = some (.ref fa) →
      ∃ fd : FuncData, (∀ (s : Shared) (u : Value), BindsTo s fd ⟨[u], []⟩ [(x, u)]) ∧ ∀ base : Heap, (K w.params).In base → base.Ns mainGlobals mg → GRun l.prog w (K w.params) mg base (CX w) k fa fd [x] (sp w))
    (hsp : ∀ (w : World) (H : Hp) (a : Addr) (ns : List Int), ns.length ≤ n → Only H → SqL (K w.params) H a (ns.map V.int) → sp w [.ref a] H (fun v _ => v = .bl true) fun _ _ _ => False)
    (hCX : ∀ (w : World) (H : Hp) (s : Shared) (e : Value) (s' : Shared), CX w [] H s (fun _ _ _ => False) e s' → False) :
    PySem.W.WalkO q loose XP YP l.row.toRowW d [] (fun f vs => PySem.call f vs) := by
  refine Att.attach_call hn hdf fun w s0 s1 mg mb fa o pm cd doc a vs ns G Y ho hd hcd hmg hobj hints hlen hg => ?_
  obtain ⟨fd, hb, hF⟩ := F w mg fa _ (hY w _ Y) G.T.g hmg
  refine row_call (hY w _ Y) G.T.g G.T.b G.T.builtins G.T.nolimit hg hobj hints (Nat.le_trans hlen hn2) (fun base H k1 k2 k3 k4 e0 => ?_) fun H e s' => hCX w H s1 e s'
  exact hF base k1 k2 callerA [] s1 H ⟨[.ref a], []⟩ [.ref a] [.ref a] _ _ rfl hr e0 (hb s1 (.ref a)) (.cons rfl .nil) (hsp w H a ns hlen k3 k4)
end Lot
/-! ### standings as data -/
namespace Lot
open PySem PySem.Spec PyProof.Rows L2
def dth (th : Str × Nat) : PyData := .tuple [.str th.1, .int th.2]
def dStand (ths : List (Str × Nat)) : PyData := .tuple (ths.map dth)
theorem dStand_inj : ∀ {a b : List (Str × Nat)}, a.map dth = b.map dth → a = b
  | [], [], _ => rfl
  | [], _ :: _, h => by cases h
  | _ :: _, [], h => by cases h
  | (x, i) :: a, (y, j) :: b, h => by
    have h' : dth (x, i) :: a.map dth = dth (y, j) :: b.map dth := h
    obtain ⟨h1, h2⟩ := List.cons.inj h'
    have h3 : PyData.tuple [.str x, .int (i : Int)] = .tuple [.str y, .int (j : Int)] := h1
    obtain ⟨h4, h5⟩ := List.cons.inj (PyData.tuple.inj h3)
    have h6 := (List.cons.inj h5).1
    have e1 : x = y := PyData.str.inj h4
    have e2 : i = j := Int.ofNat.inj (PyData.int.inj h6)
    rw [e1, e2, dStand_inj h2]
theorem Things.data {K : PySem.W.Frag} {H : Hp} : ∀ {as : List Addr} {ths : List (Str × Nat)}, Things H as ths → DpAll K H (as.map V.ref) (ths.map dth)
  | [], [], _ => .nil
  | a :: as, t :: ts, h => .cons (.tup (.inl (.inl h.1)) (.cons (.str _) (.cons (.int _) .nil))) (Things.data h.2)
  | [], _ :: _, h => h.elim
  | _ :: _, [], h => h.elim
theorem StandAt.data {K : PySem.W.Frag} {H : Hp} {t : Addr} {ths : List (Str × Nat)} (h : StandAt H t ths) : Dp K H (.ref t) (dStand ths) := by
  obtain ⟨as, e, g⟩ := h
  exact .tup (.inl (.inl e)) g.data
theorem dAll_show : ∀ {ths : List (Str × Nat)}, (∀ th ∈ ths, ThOk th) → PyData.showableAll (ths.map dth) = true
  | [], _ => rfl
  | th :: r, h => by
    have ih := dAll_show fun x hx => h x (List.mem_cons_of_mem _ hx)
    have h2 := (h th List.mem_cons_self).2
    show (PyData.showable (dth th) && PyData.showableAll (r.map dth)) = true
    rw [ih, Bool.and_true]
    have : PyData.showable (dth th) = (true && (decide (((th.2 : Int)).natAbs.log2 < 1920) && true)) := rfl
    rw [this]
    have h3 : th.2 = 0 ∨ th.2 = 1 := by omega
    rcases h3 with h3 | h3 <;> rw [h3] <;> decide
theorem dAll_plain : ∀ (ths : List (Str × Nat)), PyData.hasDictAll (ths.map dth) = false
  | [] => rfl
  | th :: r => by
    show (PyData.hasDict (dth th) || PyData.hasDictAll (r.map dth)) = false
    rw [dAll_plain r]
    rfl
theorem dAll_depth : ∀ (ths : List (Str × Nat)), PyData.depthAll (ths.map dth) ≤ 1
  | [] => Nat.zero_le _
  | th :: r => by
    have ih := dAll_depth r
    show max (PyData.depth (dth th)) (PyData.depthAll (r.map dth)) ≤ 1
    have : PyData.depth (dth th) = 1 := rfl
    omega
theorem tuple_le {ts : List Str} {m n : Nat} (h : ∀ t ∈ ts, t.length ≤ m) (hn : ts.length ≤ n) : (tupleText ts).length ≤ n * (m + 2) + 2 := by
  have h1 := PySem.fmt_text ts
  have h2 : piled ts ≤ ts.length * (m + 2) := by
    clear hn h1
    induction ts with
    | nil => exact Nat.zero_le _
    | cons t r ih =>
      have := ih fun x hx => h x (List.mem_cons_of_mem _ hx)
      have := h t List.mem_cons_self
      rw [piled_cons, List.length_cons, Nat.succ_mul]
      omega
  have h3 : ts.length * (m + 2) ≤ n * (m + 2) := Nat.mul_le_mul_right _ hn
  omega
theorem dth_len {th : Str × Nat} (h : ThOk th) : (PyData.shown (dth th)).length ≤ 2 * (50 + 2) + 2 := by
  show (tupleText [reprText th.1, toString ((th.2 : Nat) : Int)]).length ≤ _
  refine tuple_le (m := 50) (n := 2) (fun t ht => ?_) (Nat.le_refl _)
  rcases List.mem_cons.mp ht with rfl | ht
  · have := StrLaws.reprText_len th.1 fun c hc => by
      have := (h.1.2.2 c hc).2
      have e : 123 < 16 ^ 8 := by decide
      omega
    have h4 := h.1.2.1
    omega
  · rw [List.mem_singleton.mp ht]
    have h3 : th.2 = 0 ∨ th.2 = 1 := by have := h.2; omega
    rcases h3 with h3 | h3 <;> rw [h3] <;> decide +kernel
theorem shownAll_map : ∀ (ths : List (Str × Nat)), PyData.shownAll (ths.map dth) = ths.map fun th => PyData.shown (dth th)
  | [] => rfl
  | th :: r => by
    show PyData.shown (dth th) :: PyData.shownAll (r.map dth) = _
    rw [shownAll_map r]
    rfl
/-- what repr asks of a standing -/
theorem dStand_ok {ths : List (Str × Nat)} (h : ∀ th ∈ ths, ThOk th) (hl : ths.length ≤ 36) : (dStand ths).showable = true ∧ (dStand ths).hasDict = false ∧ (dStand ths).depth ≤ 50 ∧ (dStand ths).shown.length ≤ sizeLine := by
  refine ⟨dAll_show h, dAll_plain ths, ?_, ?_⟩
  · have := dAll_depth ths
    show PyData.depthAll (ths.map dth) + 1 ≤ 50
    omega
  · show (tupleText (PyData.shownAll (ths.map dth))).length ≤ sizeLine
    rw [shownAll_map]
    refine Nat.le_trans (tuple_le (m := 106) (n := 36) (fun t ht => ?_) (by rw [List.length_map]; exact hl)) (by decide)
    obtain ⟨th, hth, rfl⟩ := List.mem_map.mp ht
    exact dth_len (h th hth)
end Lot

namespace L_k02
open PySem PySem.Spec PyProof.Rows L2 Lot
def topS (i : Nat) : Stmt := PySem.Challenge.pw_stridelots_k02_standings_read.main.body.getD i (.Pass ⟨0, 0, 0, 0⟩)
abbrev sPot : Stmt := topS 13
abbrev sDip : Stmt := topS 14
theorem scPot : FnScope ["script", "at", "cell"] ["script", "at"] (defScope sPot) := ⟨rfl, rfl, rfl, by decide +kernel, rfl, by decide +kernel, by decide +kernel⟩
theorem scDip : FnScope ["pot", "many", "digit", "mixed"] ["pot", "many"] (defScope sDip) := ⟨rfl, rfl, rfl, by decide +kernel, rfl, by decide +kernel, by decide +kernel⟩
section
variable {P : Program} {w : World} {K : PySem.W.Frag} {mg : Str → Option Value} {base : Heap}
def spPot (K : PySem.W.Frag) : Sp := fun vs H Q _ => ∃ (a : Addr) (ns : List Int) (i : Nat), vs = [.ref a, .int i] ∧ SqL K H a (ns.map V.int) ∧ i ≤ 1000 ∧
  ∀ p ws, H p = none → PotV 0 ws → Q (.ref p) (upd H p (.lst ws))
theorem ok_pot {f : Addr} {fd : FuncData} {k : Nat} (F : Fun K "_law_pot" "_law_pot" sPot f fd) (ml : mg "len" = none) (mx : mg "max" = none) : FnOk P w K mg base CX0 (k + 1) f fd ["script", "at"] (spPot K) := by
  refine F.ok scPot (fun vs H Q E h => ?_) (fun cdv A outer s H vs Q E hr h => ?_)
  · obtain ⟨a, ns, i, rfl, _⟩ := h
    rfl
  · obtain ⟨a, ns, i, rfl, hS, hi, q⟩ := h
    refine ⟨_, pss_cons (ps_set (i := 2) scPot.nd rfl (.inl rfl) pe_int)
      (pss_cons (ps_if (pt_cmpR op_lt (pv 1) (pe_callB call_len_seq (by rfl) ml PySem.boot_len (pa_cons (pv 0) pa_nil)) (nomark _))
          (pss_one (ps_set (i := 2) scPot.nd rfl (.inl rfl) (pe_ix ix_list (pv 0) (pv 1) (fun _ _ => rfl)))) pss_nil)
      (pss_one (ps_ret (pe_lst (pa_cons (pe_callB (call_max2 rfl) (by rfl) mx (by decide +kernel) (pa_cons pe_int (pa_cons (pe_op op_sub (pv 2) (pe_op op_pow pe_int pe_int)) pa_nil)))
        (pa_cons (pe_op op_add (pe_op op_mod (pv 2) (pe_op op_add (pe_op op_pow pe_int pe_int) pe_int)) (pe_op op_mul pe_int (pv 1)))
        (pa_cons pe_int pa_nil))))))), ?_⟩
    have fin : ∀ cell : Int, (0 ≤ if cell - 10 ^ (18 : Int).toNat > 0 then cell - 10 ^ (18 : Int).toNat else 0) ∧ 0 ≤ cell % (10 ^ (37 : Int).toNat + 43) + 104729 * (i : Int) ∧ cell % (10 ^ (37 : Int).toNat + 43) + 104729 * (i : Int) < 10 ^ 39 := fun cell => by
      have := modlt (a := cell) (b := 10 ^ (37 : Int).toNat + 43) (by decide)
      have e : (10 : Int) ^ (37 : Int).toNat + 43 + 104729 * 1000 < 10 ^ 39 := by decide
      refine ⟨?_, by omega, by omega⟩
      split <;> omega
    refine ⟨.int i, rfl, .ref a, rfl, a, ns.map V.int, rfl, .inl hS, _, _, rfl, rfl, _, rfl, ite2 (fun e => ?_) (fun e => ?_)⟩
    · have hlt : i < ns.length := by
        have := of_decide_eq_true e
        rw [List.length_map] at this
        omega
      refine ⟨.ref a, rfl, .int i, rfl, a, _, (i : Int), .int ns[i], rfl, rfl, hS, atI_nat (by rw [List.getElem?_map, List.getElem?_eq_getElem hlt]; rfl), ?_⟩
      refine ⟨_, rfl, 10, 18, rfl, rfl, ⟨by decide, by decide, by decide⟩, ns[i], _, rfl, rfl, 0, _, rfl, ?_⟩
      refine ⟨_, rfl, 10, 37, rfl, rfl, ⟨by decide, by decide, by decide⟩, _, _, rfl, rfl, ns[i], _, rfl, rfl, (by show (0 : Int) < 10 ^ 37 + 43; decide), ?_⟩
      refine ⟨.int i, rfl, 104729, (i : Int), rfl, rfl, .inl ⟨by decide, by decide⟩, _, _, rfl, rfl, ?_⟩
      exact ⟨(by show 3 ≤ sizeLine; decide), fun p np => q p _ np ⟨_, _, _, rfl, (fin ns[i]).1, (fin ns[i]).2.1, (fin ns[i]).2.2, Int.le_refl _, Int.le_refl _⟩⟩
    · refine ⟨_, rfl, 10, 18, rfl, rfl, ⟨by decide, by decide, by decide⟩, 0, _, rfl, rfl, 0, _, rfl, ?_⟩
      refine ⟨_, rfl, 10, 37, rfl, rfl, ⟨by decide, by decide, by decide⟩, _, _, rfl, rfl, 0, _, rfl, rfl, (by show (0 : Int) < 10 ^ 37 + 43; decide), ?_⟩
      refine ⟨.int i, rfl, 104729, (i : Int), rfl, rfl, .inl ⟨by decide, by decide⟩, _, _, rfl, rfl, ?_⟩
      exact ⟨(by show 3 ≤ sizeLine; decide), fun p np => q p _ np ⟨_, _, _, rfl, (fin 0).1, (fin 0).2.1, (fin 0).2.2, Int.le_refl _, Int.le_refl _⟩⟩
/-- a draw: a number below m; the pot changes alone -/
def spDip : Sp := fun vs H Q _ => ∃ (p : Addr) (m : Int) (N : Nat), vs = [.ref p, .int m] ∧ 0 < m ∧ m ≤ 10 ^ 18 ∧ PotAt H p N ∧ N ≤ 1000000 ∧
  ∀ (r : Nat) ws, (r : Int) < m → PotV (N + 1) ws → Q (.int r) (upd H p (.lst ws))
theorem ok_dip {f : Addr} {fd : FuncData} {k : Nat} (F : Fun K "_law_dip" "_law_dip" sDip f fd) : FnOk P w K mg base CX0 (k + 1) f fd ["pot", "many"] spDip := by
  refine F.ok scDip (fun vs H Q E h => ?_) (fun cdv A outer s H vs Q E hr h => ?_)
  · obtain ⟨p, m, N, rfl, _⟩ := h
    rfl
  · obtain ⟨p, m, N, rfl, hm, hm2, ⟨ws, hp, a, c, n, rfl, h0, h1, h2, h3, h4⟩, hN, q⟩ := h
    refine ⟨_, pss_cons (ps_if (pt_cmpR op_gt (pe_ix ix_list (pv 0) pe_int (fun _ _ => rfl)) pe_int (nomark _))
        (pss_cons (ps_set (i := 2) scDip.nd rfl (.inl rfl) (pe_op op_mod (pe_ix ix_list (pv 0) pe_int (fun _ _ => rfl)) (pv 1)))
        (pss_cons (ps_asg (pe_op op_fdivW (pe_ix ix_list (pv 0) pe_int (fun _ _ => rfl)) (pv 1)) (pg_sub (pv 0) pe_int set_list))
        (pss_one (ps_ret (pv 2))))) pss_nil)
      (pss_cons (ps_asg (pe_op op_add (pe_ix ix_list (pv 0) pe_int (fun _ _ => rfl)) pe_int) (pg_sub (pv 0) pe_int set_list))
      (pss_cons (ps_set (i := 3) scDip.nd rfl (.inl rfl) (pe_op op_mod (pe_op op_powW (pe_op op_add (pe_ix ix_list (pv 0) pe_int (fun _ _ => rfl)) (pe_op op_mul pe_int (pe_ix ix_list (pv 0) pe_int (fun _ _ => rfl)))) pe_int) (pe_op op_add (pe_op op_pow pe_int pe_int) pe_int)))
      (pss_cons (ps_set (i := 3) scDip.nd rfl (.inl rfl) (pe_op op_mod (pe_op op_powW (pe_op op_add (pv 3) (pe_op op_mul pe_int (pe_ix ix_list (pv 0) pe_int (fun _ _ => rfl)))) pe_int) (pe_op op_add (pe_op op_pow pe_int pe_int) pe_int)))
      (pss_one (ps_ret (pe_op op_mod (pe_op op_fdiv (pv 3) pe_int) (pv 1))))))), ?_⟩
    have hL : SqL K H p [.int a, .int c, .int n] := .inl (.inl hp)
    have i0 : atI ([.int a, .int c, .int n] : List V) 0 = some (.int a) := atI_nat (j := 0) rfl
    have i2 : atI ([.int a, .int c, .int n] : List V) 2 = some (.int n) := atI_nat (j := 2) rfl
    refine ⟨.ref p, rfl, p, _, 0, .int a, rfl, rfl, hL, i0, a, 0, rfl, rfl, _, rfl, ite2 (fun e => ?_) (fun e => ?_)⟩
    · have ha : 0 < a := of_decide_eq_true e
      have hr := modlt (a := a) hm
      refine ⟨.ref p, rfl, p, _, 0, .int a, rfl, rfl, hL, i0, .int m, rfl, a, m, rfl, rfl, hm, ?_⟩
      refine ⟨.ref p, rfl, p, _, 0, .int a, rfl, rfl, hL, i0, .int m, rfl, a, m, rfl, rfl, wide_div (b := 70) hm (int_lt_pow (Int.le_of_lt hm) (Int.lt_of_le_of_lt hm2 (by decide))) (by decide) (by decide), ?_⟩
      refine ⟨.ref p, rfl, p, _, 0, 0, rfl, rfl, hp, rfl, ?_⟩
      refine ⟨.int (a % m), rfl, ?_⟩
      have er : a % m = (((a % m).toNat : Nat) : Int) := (Int.toNat_of_nonneg hr.1).symm
      rw [er]
      exact q _ _ (by rw [← er]; exact hr.2) ⟨_, _, _, rfl, Int.ediv_nonneg h0 (by omega), h1, h2, h3, by omega⟩
    · refine ⟨.ref p, rfl, p, _, 2, .int n, rfl, rfl, hL, i2, n, 1, rfl, rfl, ?_⟩
      refine ⟨.ref p, rfl, p, _, 2, 2, rfl, rfl, hp, rfl, ?_⟩
      have hp2 : (upd H p (.lst [.int a, .int c, .int (n + 1)])) p = some (.lst [.int a, .int c, .int (n + 1)]) := upd_same
      have hL2 : SqL K (upd H p (.lst [.int a, .int c, .int (n + 1)])) p [.int a, .int c, .int (n + 1)] := .inl (.inl hp2)
      have j1 : atI ([.int a, .int c, .int (n + 1)] : List V) 1 = some (.int c) := atI_nat (j := 1) rfl
      have j2 : atI ([.int a, .int c, .int (n + 1)] : List V) 2 = some (.int (n + 1)) := atI_nat (j := 2) rfl
      refine ⟨.ref p, rfl, p, _, 1, .int c, rfl, rfl, hL2, j1, .ref p, rfl, p, _, 2, .int (n + 1), rfl, rfl, hL2, j2, 9999991, n + 1, rfl, rfl, .inl ⟨by decide, by decide⟩, c, _, rfl, rfl, ?_⟩
      have b1 : (c + 9999991 * (n + 1)).natAbs < 2 ^ 200 := int_lt_pow (by omega) (by
        have : (10 : Int) ^ 39 + 9999991 * 1000002 < 2 ^ 200 := by decide
        omega)
      refine ⟨_, 3, rfl, rfl, ⟨by decide, by decide, b1⟩, 10, 36, rfl, rfl, ⟨by decide, by decide, by decide⟩, _, 67, rfl, rfl, _, _, rfl, rfl, (by show (0 : Int) < 10 ^ 36 + 67; decide), ?_⟩
      obtain ⟨z, hz⟩ : ∃ z, z = (c + 9999991 * (n + 1)) ^ (3 : Int).toNat % (10 ^ (36 : Int).toNat + 67) := ⟨_, rfl⟩
      have hz1 := modlt (a := (c + 9999991 * (n + 1)) ^ (3 : Int).toNat) (b := 10 ^ (36 : Int).toNat + 67) (by decide)
      rw [← hz] at hz1
      refine ⟨.int z, congrArg (fun i => some (some (V.int i))) hz.symm, .ref p, rfl, p, _, 2, .int (n + 1), rfl, rfl, hL2, j2, 7919, n + 1, rfl, rfl, .inl ⟨by decide, by decide⟩, z, _, rfl, rfl, ?_⟩
      have b2 : (z + 7919 * (n + 1)).natAbs < 2 ^ 200 := int_lt_pow (by omega) (by
        have : (10 : Int) ^ (36 : Int).toNat + 67 + 7919 * 1000002 < 2 ^ 200 := by decide
        omega)
      refine ⟨_, 3, rfl, rfl, ⟨by decide, by decide, b2⟩, 10, 33, rfl, rfl, ⟨by decide, by decide, by decide⟩, _, 61, rfl, rfl, _, _, rfl, rfl, (by show (0 : Int) < 10 ^ 33 + 61; decide), ?_⟩
      obtain ⟨y, hy⟩ : ∃ y, y = (z + 7919 * (n + 1)) ^ (3 : Int).toNat % (10 ^ (33 : Int).toNat + 61) := ⟨_, rfl⟩
      refine ⟨.int y, congrArg (fun i => some (some (V.int i))) hy.symm, y, 4096, rfl, rfl, ⟨by decide, by decide⟩, .int m, rfl, y / 4096, m, rfl, rfl, hm, ?_⟩
      have hr := modlt (a := y / 4096) hm
      have er : y / 4096 % m = (((y / 4096 % m).toNat : Nat) : Int) := (Int.toNat_of_nonneg hr.1).symm
      show Q (.int (y / 4096 % m)) _
      rw [er]
      exact q _ _ (by rw [← er]; exact hr.2) ⟨_, _, _, rfl, h0, h1, h2, by omega, by omega⟩
end
end L_k02

namespace L_k02
open PySem PySem.Spec PyProof.Rows L2 Lot
abbrev sBoard : Stmt := topS 15
theorem scBoard : FnScope ["pot", "most", "way", "short", "long"] ["pot", "most"] (defScope sBoard) := ⟨rfl, rfl, rfl, by decide +kernel, rfl, by decide +kernel, by decide +kernel⟩
abbrev sCells : Stmt := topS 16
theorem scCells : FnScope ["board"] ["board"] (defScope sCells) := ⟨rfl, rfl, rfl, by decide +kernel, rfl, by decide +kernel, by decide +kernel⟩
section
variable {P : Program} {w : World} {K : PySem.W.Frag} {mg : Str → Option Value} {base : Heap}
def spBoard : Sp := fun vs H Q _ => ∃ (p : Addr) (most : Nat) (N : Nat), vs = [.ref p, .int most] ∧ 20 ≤ most ∧ most ≤ 36 ∧ PotAt H p N ∧ N ≤ 1000 ∧
  ∀ H' b (bd : Bd), But p H H' → PotAt H' p (N + 4) → H b = none → H' b = some (.tup bd.vals) → bd.Ok most → Q (.ref b) H'
theorem board_math {most r3 : Nat} {short : Int} (hm : 20 ≤ most) (h1 : 1 ≤ short) (h2 : 3 * short ≤ most) (h3 : (r3 : Int) < (most : Int) / short - 2) :
    1 ≤ short.toNat ∧ 1 ≤ 3 + r3 ∧ short.toNat * (3 + r3) ≤ most ∧ (3 + r3) * short.toNat ≤ most ∧ short = (short.toNat : Int) := by
  have e : short = (short.toNat : Int) := (Int.toNat_of_nonneg (by omega)).symm
  generalize short.toNat = n at *
  subst e
  have hn : 1 ≤ n := by omega
  have hle : 3 + r3 ≤ most / n := by
    have : (most : Int) / (n : Int) = ((most / n : Nat) : Int) := (Int.natCast_ediv most n).symm
    omega
  have hmul : n * (3 + r3) ≤ most := Nat.le_trans (Nat.mul_le_mul_left n hle) (Nat.mul_div_le most n)
  exact ⟨hn, by omega, hmul, by rw [Nat.mul_comm]; exact hmul, rfl⟩
theorem ok_board {f fD : Addr} {fd fdD : FuncData} (F : Fun K "_law_board" "_law_board" sBoard f fd) (D__law_dip : Def P w K mg base 1 "_law_dip" ["pot", "many"] spDip fD fdD) : FnOk P w K mg base CX0 2 f fd ["pot", "most"] spBoard := by
  refine F.ok scBoard (fun vs H Q E h => ?_) (fun cdv A outer s H vs Q E hr h => ?_)
  · obtain ⟨p, most, N, rfl, _⟩ := h
    rfl
  · obtain ⟨p, most, N, rfl, hm1, hm2, hP, hN, q⟩ := h
    refine ⟨_, (pss_cons (ps_set (i := 2) scBoard.nd rfl (by first | exact .inl rfl | exact .inr rfl) (pe_call D__law_dip.ok (hr.mono (by decide)) (by rfl) D__law_dip.g D__law_dip.kp D__law_dip.b .nil pass0 (pa_cons (pv 0) (pa_cons pe_int pa_nil))))
      (pss_cons (ps_if (pt_cmpR op_lt (pv 2) pe_int (nomark _)) (pss_one (ps_ret (pe_tup (pa_cons pe_str (pa_cons (pe_op op_add pe_int (pe_call D__law_dip.ok (hr.mono (by decide)) (by rfl) D__law_dip.g D__law_dip.kp D__law_dip.b .nil pass0 (pa_cons (pv 0) (pa_cons (pe_op op_sub (pv 1) pe_int) pa_nil)))) pa_nil))))) pss_nil)
      (pss_cons (ps_if (pt_cmpR op_eq (pv 2) pe_int (nomark _)) (pss_one (ps_ret (pe_tup (pa_cons pe_str (pa_cons (pe_op op_add pe_int (pe_call D__law_dip.ok (hr.mono (by decide)) (by rfl) D__law_dip.g D__law_dip.kp D__law_dip.b .nil pass0 (pa_cons (pv 0) (pa_cons (pe_op op_sub (pv 1) pe_int) pa_nil)))) pa_nil))))) pss_nil)
      (pss_cons (ps_set (i := 3) scBoard.nd rfl (by first | exact .inl rfl | exact .inr rfl) (pe_op op_add pe_int (pe_call D__law_dip.ok (hr.mono (by decide)) (by rfl) D__law_dip.g D__law_dip.kp D__law_dip.b .nil pass0 (pa_cons (pv 0) (pa_cons pe_int pa_nil)))))
      (pss_cons (ps_if (pt_cmpR op_gt (pe_op op_mul pe_int (pv 3)) (pv 1) (nomark _)) (pss_one (ps_set (i := 3) scBoard.nd rfl (by first | exact .inl rfl | exact .inr rfl) (pe_op op_fdiv (pv 1) pe_int))) pss_nil)
      (pss_cons (ps_set (i := 4) scBoard.nd rfl (by first | exact .inl rfl | exact .inr rfl) (pe_op op_add pe_int (pe_call D__law_dip.ok (hr.mono (by decide)) (by rfl) D__law_dip.g D__law_dip.kp D__law_dip.b .nil pass0 (pa_cons (pv 0) (pa_cons (pe_op op_sub (pe_op op_fdiv (pv 1) (pv 3)) pe_int) pa_nil)))))
      (pss_one (ps_ret (pe_ix ix_list (pe_lst (pa_cons (pe_tup (pa_cons pe_str (pa_cons (pv 3) (pa_cons (pv 4) pa_nil)))) (pa_cons (pe_tup (pa_cons pe_str (pa_cons (pv 4) (pa_cons (pv 3) pa_nil)))) pa_nil))) (pe_call D__law_dip.ok (hr.mono (by decide)) (by rfl) D__law_dip.g D__law_dip.kp D__law_dip.b .nil pass0 (pa_cons (pv 0) (pa_cons pe_int pa_nil))) (fun _ _ => rfl)))))))))), ?_⟩
    refine ⟨.ref p, rfl, p, 4, N, rfl, by decide, by decide, hP, by omega, fun r ws hr1 hw => ?_⟩
    have hP1 : PotAt (upd H p (.lst ws)) p (N + 1) := PotAt.upd hw
    have B1 : But p H (upd H p (.lst ws)) := But.upd
    generalize (upd H p (.lst ws)) = H1 at *
    have fresh : ∀ {H' : Hp} {b : Addr}, But p H H' → PotAt H' p (N + 3) → H' b = none → H b = none := fun {H' b} B hP h => by
      by_cases e : b = p
      · exact absurd e (hP.ne h)
      · cases z : H b with
        | none => rfl
        | some o => rw [B b o e z] at h; cases h
    refine ⟨.int r, rfl, r, 2, rfl, rfl, _, rfl, ite2 (fun e => ?_) (fun e => ?_)⟩
    · refine ⟨.ref p, rfl, .int most, rfl, most, 2, rfl, rfl, p, most - 2, N + 1, rfl, by omega, by omega, hP1, by omega, fun r2 ws2 hr2 hw2 => ?_⟩
      refine ⟨3, r2, rfl, rfl, (by show 2 ≤ sizeLine; decide), fun b nb => ?_⟩
      have hP2 : PotAt (upd H1 p (.lst ws2)) p (N + 1 + 1) := PotAt.upd hw2
      have B2 := B1.trans (But.upd (p := p) (H := H1) (o := .lst ws2))
      have nb0 : H b = none := fresh B2 (hP2.mono (by omega)) nb
      refine q _ b (.row (3 + r2)) (B2.trans (But.of_same (same_upd nb))) ((hP2.updne (Ne.symm (hP2.ne nb))).mono (by omega)) nb0 ?_ ⟨by omega, by omega⟩
      rw [upd_same]
      rfl
    · refine ⟨.int r, rfl, rfl, _, rfl, ite2 (fun e => ?_) (fun e => ?_)⟩
      · refine ⟨.ref p, rfl, .int most, rfl, most, 4, rfl, rfl, p, most - 4, N + 1, rfl, by omega, by omega, hP1, by omega, fun r2 ws2 hr2 hw2 => ?_⟩
        refine ⟨5, r2, rfl, rfl, (by show 2 ≤ sizeLine; decide), fun b nb => ?_⟩
        have hP2 : PotAt (upd H1 p (.lst ws2)) p (N + 1 + 1) := PotAt.upd hw2
        have B2 := B1.trans (But.upd (p := p) (H := H1) (o := .lst ws2))
        have nb0 : H b = none := fresh B2 (hP2.mono (by omega)) nb
        refine q _ b (.ring (5 + r2)) (B2.trans (But.of_same (same_upd nb))) ((hP2.updne (Ne.symm (hP2.ne nb))).mono (by omega)) nb0 ?_ ⟨by omega, by omega⟩
        rw [upd_same]
        rfl
      · refine ⟨.ref p, rfl, p, 6, N + 1, rfl, by decide, by decide, hP1, by omega, fun r2 ws2 hr2 hw2 => ?_⟩
        have hP2 : PotAt (upd H1 p (.lst ws2)) p (N + 2) := PotAt.upd hw2
        have B2 : But p H (upd H1 p (.lst ws2)) := B1.trans But.upd
        generalize (upd H1 p (.lst ws2)) = H2 at *
        refine ⟨1, r2, rfl, rfl, .int (1 + (r2 : Int)), rfl, 3, 1 + (r2 : Int), rfl, rfl, .inl ⟨by decide, by decide⟩, .int most, rfl, 3 * (1 + (r2 : Int)), most, rfl, rfl, _, rfl, ite2 (fun e => ?_) (fun e => ?_)⟩
        · have c := of_decide_eq_true e
          refine ⟨.int most, rfl, most, 3, rfl, rfl, ⟨by decide, by decide⟩, ?_⟩
          have hq : (most : Int) / ((most : Int) / 3) = ((most : Int) / ((most : Int) / 3)) := rfl
          obtain ⟨hs1, hs3⟩ : 1 ≤ ((most : Int) / 3) ∧ 3 * ((most : Int) / 3) ≤ most := by constructor <;> omega
          have hge : (3 : Int) ≤ (most : Int) / ((most : Int) / 3) := (Int.le_ediv_iff_mul_le (by omega)).mpr (by omega)
          have hle36 : (most : Int) / ((most : Int) / 3) ≤ 36 := by
            have h1 : (most : Int) / ((most : Int) / 3) ≤ most := Int.ediv_le_self _ (by omega)
            omega
          refine ⟨.ref p, rfl, .int most, rfl, .int (((most : Int) / 3)), rfl, most, ((most : Int) / 3), rfl, rfl, ⟨by omega, by omega⟩, _, 2, rfl, rfl, p, _, N + 2, rfl, ?_, ?_, hP2, by omega, fun r3 ws3 hr3 hw3 => ?_⟩
          · show (0 : Int) < (most : Int) / ((most : Int) / 3) - 2
            omega
          · show (most : Int) / ((most : Int) / 3) - 2 ≤ 10 ^ 18
            omega
          obtain ⟨m1, m2, m3, m4, es⟩ := board_math hm1 hs1 hs3 hr3
          have hP3 : PotAt (upd H2 p (.lst ws3)) p (N + 3) := PotAt.upd hw3
          have B3 : But p H (upd H2 p (.lst ws3)) := B2.trans But.upd
          generalize (upd H2 p (.lst ws3)) = H3 at *
          refine ⟨3, r3, rfl, rfl, .int (((most : Int) / 3)), rfl, .int (3 + (r3 : Int)), rfl, (by show 3 ≤ sizeLine; decide), fun t1 n1 => ?_⟩
          refine ⟨.int (3 + (r3 : Int)), rfl, .int (((most : Int) / 3)), rfl, (by show 3 ≤ sizeLine; decide), fun t2 n2 => ?_⟩
          refine ⟨(by show 2 ≤ sizeLine; decide), fun l nl => ?_⟩
          have S1 : Same H3 (upd H3 t1 (.tup [.str "floor", .int (((most : Int) / 3)), .int (3 + (r3 : Int))])) := same_upd n1
          have e1 : (upd H3 t1 (.tup [.str "floor", .int (((most : Int) / 3)), .int (3 + (r3 : Int))])) t1 = some (.tup [.str "floor", .int (((most : Int) / 3)), .int (3 + (r3 : Int))]) := upd_same
          have S2 : Same _ (upd (upd H3 t1 (.tup [.str "floor", .int (((most : Int) / 3)), .int (3 + (r3 : Int))])) t2 (.tup [.str "floor", .int (3 + (r3 : Int)), .int (((most : Int) / 3))])) := same_upd n2
          have e2 : (upd (upd H3 t1 (.tup [.str "floor", .int (((most : Int) / 3)), .int (3 + (r3 : Int))])) t2 (.tup [.str "floor", .int (3 + (r3 : Int)), .int (((most : Int) / 3))])) t2 = some (.tup [.str "floor", .int (3 + (r3 : Int)), .int (((most : Int) / 3))]) := upd_same
          have S3 := same_upd (o := .lst [.ref t1, .ref t2]) nl
          have el : upd (upd (upd H3 t1 (.tup [.str "floor", .int (((most : Int) / 3)), .int (3 + (r3 : Int))])) t2 (.tup [.str "floor", .int (3 + (r3 : Int)), .int (((most : Int) / 3))])) l (.lst [.ref t1, .ref t2]) l = some (.lst [.ref t1, .ref t2]) := upd_same
          have e1' := S3 _ _ (S2 _ _ e1)
          have e2' := S3 _ _ e2
          have SS := (S1.trans S2).trans S3
          generalize upd (upd (upd H3 t1 (.tup [.str "floor", .int (((most : Int) / 3)), .int (3 + (r3 : Int))])) t2 (.tup [.str "floor", .int (3 + (r3 : Int)), .int (((most : Int) / 3))])) l (.lst [.ref t1, .ref t2]) = H4 at *
          have hP4 : PotAt H4 p (N + 3) := hP3.same SS
          have lp : l ≠ p := fun z => by
            obtain ⟨vs, f, g⟩ := hP4
            rw [z, f] at el
            obtain ⟨_, _, _, rfl, _⟩ := g
            cases el
          have t1p : t1 ≠ p := fun z => by
            obtain ⟨vs, f, g⟩ := hP4
            rw [z, f] at e1'
            cases e1'
          have t2p : t2 ≠ p := fun z => by
            obtain ⟨vs, f, g⟩ := hP4
            rw [z, f] at e2'
            cases e2'
          have n1' : H3 t1 = none := n1
          have n2' : H3 t2 = none := S1.free n2
          have f1 : H t1 = none := fresh B3 (hP3.mono (by omega)) n1'
          have f2 : H t2 = none := fresh B3 (hP3.mono (by omega)) n2'
          refine ⟨.ref p, rfl, p, 2, N + 3, rfl, by decide, by decide, hP4, by omega, fun r4 ws4 hr4 hw4 => ?_⟩
          have B4 : But p H (upd H4 p (.lst ws4)) := (B3.trans (But.of_same SS)).trans But.upd
          have hP5 : PotAt (upd H4 p (.lst ws4)) p (N + 4) := PotAt.upd hw4
          have el5 : (upd H4 p (.lst ws4)) l = some (.lst [.ref t1, .ref t2]) := by rw [upd_ne lp]; exact el
          have e15 := (upd_ne (H := H4) (o := .lst ws4) t1p).trans e1'
          have e25 := (upd_ne (H := H4) (o := .lst ws4) t2p).trans e2'
          rw [es] at e15 e25
          have r4' : r4 = 0 ∨ r4 = 1 := by omega
          rcases r4' with rfl | rfl
          · refine ⟨l, _, 0, .ref t1, rfl, rfl, .inl (.inl el5), atI_nat (j := 0) rfl, ?_⟩
            exact q _ t1 (.floor (((most : Int) / 3)).toNat (3 + r3)) B4 hP5 f1 (by rw [e15]; rfl) ⟨m1, m2, m3⟩
          · refine ⟨l, _, 1, .ref t2, rfl, rfl, .inl (.inl el5), atI_nat (j := 1) rfl, ?_⟩
            exact q _ t2 (.floor (3 + r3) (((most : Int) / 3)).toNat) B4 hP5 f2 (by rw [e25]; rfl) ⟨m2, m1, m4⟩
        · have c : ¬ (most : Int) < 3 * (1 + (r2 : Int)) := fun z => e (decide_eq_true z)
          have hq : (most : Int) / (1 + (r2 : Int)) = ((most : Int) / (1 + (r2 : Int))) := rfl
          obtain ⟨hs1, hs3⟩ : 1 ≤ (1 + (r2 : Int)) ∧ 3 * (1 + (r2 : Int)) ≤ most := by constructor <;> omega
          have hge : (3 : Int) ≤ (most : Int) / (1 + (r2 : Int)) := (Int.le_ediv_iff_mul_le (by omega)).mpr (by omega)
          have hle36 : (most : Int) / (1 + (r2 : Int)) ≤ 36 := by
            have h1 : (most : Int) / (1 + (r2 : Int)) ≤ most := Int.ediv_le_self _ (by omega)
            omega
          refine ⟨.ref p, rfl, .int most, rfl, .int ((1 + (r2 : Int))), rfl, most, (1 + (r2 : Int)), rfl, rfl, ⟨by omega, by omega⟩, _, 2, rfl, rfl, p, _, N + 2, rfl, ?_, ?_, hP2, by omega, fun r3 ws3 hr3 hw3 => ?_⟩
          · show (0 : Int) < (most : Int) / (1 + (r2 : Int)) - 2
            omega
          · show (most : Int) / (1 + (r2 : Int)) - 2 ≤ 10 ^ 18
            omega
          obtain ⟨m1, m2, m3, m4, es⟩ := board_math hm1 hs1 hs3 hr3
          have hP3 : PotAt (upd H2 p (.lst ws3)) p (N + 3) := PotAt.upd hw3
          have B3 : But p H (upd H2 p (.lst ws3)) := B2.trans But.upd
          generalize (upd H2 p (.lst ws3)) = H3 at *
          refine ⟨3, r3, rfl, rfl, .int ((1 + (r2 : Int))), rfl, .int (3 + (r3 : Int)), rfl, (by show 3 ≤ sizeLine; decide), fun t1 n1 => ?_⟩
          refine ⟨.int (3 + (r3 : Int)), rfl, .int ((1 + (r2 : Int))), rfl, (by show 3 ≤ sizeLine; decide), fun t2 n2 => ?_⟩
          refine ⟨(by show 2 ≤ sizeLine; decide), fun l nl => ?_⟩
          have S1 : Same H3 (upd H3 t1 (.tup [.str "floor", .int ((1 + (r2 : Int))), .int (3 + (r3 : Int))])) := same_upd n1
          have e1 : (upd H3 t1 (.tup [.str "floor", .int ((1 + (r2 : Int))), .int (3 + (r3 : Int))])) t1 = some (.tup [.str "floor", .int ((1 + (r2 : Int))), .int (3 + (r3 : Int))]) := upd_same
          have S2 : Same _ (upd (upd H3 t1 (.tup [.str "floor", .int ((1 + (r2 : Int))), .int (3 + (r3 : Int))])) t2 (.tup [.str "floor", .int (3 + (r3 : Int)), .int ((1 + (r2 : Int)))])) := same_upd n2
          have e2 : (upd (upd H3 t1 (.tup [.str "floor", .int ((1 + (r2 : Int))), .int (3 + (r3 : Int))])) t2 (.tup [.str "floor", .int (3 + (r3 : Int)), .int ((1 + (r2 : Int)))])) t2 = some (.tup [.str "floor", .int (3 + (r3 : Int)), .int ((1 + (r2 : Int)))]) := upd_same
          have S3 := same_upd (o := .lst [.ref t1, .ref t2]) nl
          have el : upd (upd (upd H3 t1 (.tup [.str "floor", .int ((1 + (r2 : Int))), .int (3 + (r3 : Int))])) t2 (.tup [.str "floor", .int (3 + (r3 : Int)), .int ((1 + (r2 : Int)))])) l (.lst [.ref t1, .ref t2]) l = some (.lst [.ref t1, .ref t2]) := upd_same
          have e1' := S3 _ _ (S2 _ _ e1)
          have e2' := S3 _ _ e2
          have SS := (S1.trans S2).trans S3
          generalize upd (upd (upd H3 t1 (.tup [.str "floor", .int ((1 + (r2 : Int))), .int (3 + (r3 : Int))])) t2 (.tup [.str "floor", .int (3 + (r3 : Int)), .int ((1 + (r2 : Int)))])) l (.lst [.ref t1, .ref t2]) = H4 at *
          have hP4 : PotAt H4 p (N + 3) := hP3.same SS
          have lp : l ≠ p := fun z => by
            obtain ⟨vs, f, g⟩ := hP4
            rw [z, f] at el
            obtain ⟨_, _, _, rfl, _⟩ := g
            cases el
          have t1p : t1 ≠ p := fun z => by
            obtain ⟨vs, f, g⟩ := hP4
            rw [z, f] at e1'
            cases e1'
          have t2p : t2 ≠ p := fun z => by
            obtain ⟨vs, f, g⟩ := hP4
            rw [z, f] at e2'
            cases e2'
          have n1' : H3 t1 = none := n1
          have n2' : H3 t2 = none := S1.free n2
          have f1 : H t1 = none := fresh B3 (hP3.mono (by omega)) n1'
          have f2 : H t2 = none := fresh B3 (hP3.mono (by omega)) n2'
          refine ⟨.ref p, rfl, p, 2, N + 3, rfl, by decide, by decide, hP4, by omega, fun r4 ws4 hr4 hw4 => ?_⟩
          have B4 : But p H (upd H4 p (.lst ws4)) := (B3.trans (But.of_same SS)).trans But.upd
          have hP5 : PotAt (upd H4 p (.lst ws4)) p (N + 4) := PotAt.upd hw4
          have el5 : (upd H4 p (.lst ws4)) l = some (.lst [.ref t1, .ref t2]) := by rw [upd_ne lp]; exact el
          have e15 := (upd_ne (H := H4) (o := .lst ws4) t1p).trans e1'
          have e25 := (upd_ne (H := H4) (o := .lst ws4) t2p).trans e2'
          rw [es] at e15 e25
          have r4' : r4 = 0 ∨ r4 = 1 := by omega
          rcases r4' with rfl | rfl
          · refine ⟨l, _, 0, .ref t1, rfl, rfl, .inl (.inl el5), atI_nat (j := 0) rfl, ?_⟩
            exact q _ t1 (.floor ((1 + (r2 : Int))).toNat (3 + r3)) B4 hP5 f1 (by rw [e15]; rfl) ⟨m1, m2, m3⟩
          · refine ⟨l, _, 1, .ref t2, rfl, rfl, .inl (.inl el5), atI_nat (j := 1) rfl, ?_⟩
            exact q _ t2 (.floor (3 + r3) ((1 + (r2 : Int))).toNat) B4 hP5 f2 (by rw [e25]; rfl) ⟨m2, m1, m4⟩
end
end L_k02

namespace L_k02
open PySem PySem.Spec PyProof.Rows L2 Lot
abbrev sName : Stmt := topS 17
theorem scName : FnScope ["style", "sign", "number", "letters", "one", "more", "sorts"] ["style", "sign", "number"] (defScope sName) := ⟨rfl, rfl, rfl, by decide +kernel, rfl, by decide +kernel, by decide +kernel⟩
section
variable {P : Program} {w : World} {K : PySem.W.Frag} {mg : Str → Option Value} {base : Heap}
/-- _law_cells(board) -/
def spCells (K : PySem.W.Frag) : Sp := fun vs H Q _ => ∃ (b : Addr) (bd : Bd), vs = [.ref b] ∧ SqT K H b bd.vals ∧ bd.Ok 36 ∧ Q (.int bd.cells) H
theorem ok_cells {f : Addr} {fd : FuncData} (F : Fun K "_law_cells" "_law_cells" sCells f fd) : FnOk P w K mg base CX0 1 f fd ["board"] (spCells K) := by
  refine F.ok scCells (fun vs H Q E h => ?_) (fun cdv A outer s H vs Q E hr h => ?_)
  · obtain ⟨b, bd, rfl, _⟩ := h
    rfl
  · obtain ⟨b, bd, rfl, hB, ok, q⟩ := h
    refine ⟨_, pss_one (ps_ret (pe_ifExp (pt_cmpR op_eq (pe_ix ix_tup (pv 0) pe_int (fun _ _ => rfl)) pe_str (nomark _)) (pe_op op_mul (pe_ix ix_tup (pv 0) pe_int (fun _ _ => rfl)) (pe_ix ix_tup (pv 0) pe_int (fun _ _ => rfl))) (pe_ix ix_tup (pv 0) pe_int (fun _ _ => rfl)))), ?_⟩
    cases bd with
    | row n =>
      refine ⟨.ref b, rfl, b, _, 0, _, rfl, rfl, hB, atI_nat (j := 0) rfl, rfl, _, rfl, iteN (by decide +kernel) ?_⟩
      refine ⟨.ref b, rfl, b, _, 1, _, rfl, rfl, hB, atI_nat (j := 1) rfl, ?_⟩
      have e : (Bd.row n).cells = n := Nat.one_mul n
      rw [e] at q
      exact q
    | ring n =>
      refine ⟨.ref b, rfl, b, _, 0, _, rfl, rfl, hB, atI_nat (j := 0) rfl, rfl, _, rfl, iteN (by decide +kernel) ?_⟩
      refine ⟨.ref b, rfl, b, _, 1, _, rfl, rfl, hB, atI_nat (j := 1) rfl, ?_⟩
      have e : (Bd.ring n).cells = n := Nat.one_mul n
      rw [e] at q
      exact q
    | floor h w =>
      obtain ⟨o1, o2, o3⟩ := ok
      have h36 : h ≤ 36 := Nat.le_trans (Nat.le_mul_of_pos_right h o2) o3
      refine ⟨.ref b, rfl, b, _, 0, _, rfl, rfl, hB, atI_nat (j := 0) rfl, rfl, _, rfl, iteP (by decide +kernel) ?_⟩
      refine ⟨.ref b, rfl, b, _, 1, .int h, rfl, rfl, hB, atI_nat (j := 1) rfl, .ref b, rfl, b, _, 2, .int w, rfl, rfl, hB, atI_nat (j := 2) rfl, h, w, rfl, rfl, .inl ⟨by omega, by omega⟩, ?_⟩
      have e : (((Bd.floor h w).cells : Nat) : Int) = (h : Int) * (w : Int) := Int.natCast_mul h w
      rw [e] at q
      exact q
/-- _law_name: a name -/
def spName : Sp := fun vs H Q _ => ∃ (style sign number : Nat), vs = [.int style, .int sign, .int number] ∧ style < 6 ∧ sign < 26 ∧ number < 1000 ∧ ∀ z H', Same H H' → NameOk z → Q (.str z) H'
theorem ok_name {f : Addr} {fd : FuncData} (F : Fun K "_law_name" "_law_name" sName f fd) (m_int : mg "int" = none) : FnOk P w K mg base CX0 1 f fd ["style", "sign", "number"] spName := by
  refine F.ok scName (fun vs H Q E h => ?_) (fun cdv A outer s H vs Q E hr h => ?_)
  · obtain ⟨a, b, c, rfl, _⟩ := h
    rfl
  · obtain ⟨style, sign, number, rfl, h1, h2, h3, q⟩ := h
    refine ⟨_, (pss_cons (ps_set (i := 3) scName.nd rfl (by first | exact .inl rfl | exact .inr rfl) pe_str)
      (pss_cons (ps_set (i := 4) scName.nd rfl (by first | exact .inl rfl | exact .inr rfl) (pe_ix ix_str (pv 3) (pe_op op_mod (pe_op op_add (pv 2) (pv 1)) pe_int) (fun _ _ => rfl)))
      (pss_cons (ps_set (i := 5) scName.nd rfl (by first | exact .inl rfl | exact .inr rfl) (pe_ix ix_str (pv 3) (pe_op op_mod (pe_op op_add (pe_op op_mul (pe_op op_fdiv (pv 2) pe_int) pe_int) (pv 1)) pe_int) (fun _ _ => rfl)))
      (pss_cons (ps_set (i := 6) scName.nd rfl (by first | exact .inl rfl | exact .inr rfl) (pe_lst (pa_cons (pe_op op_add_str (pv 4) (pe_op op_repS (pv 5) (pe_callTy call_int1 (by rfl) m_int (by decide +kernel) (pa_cons (pe_cmpR op_gt (pv 2) pe_int (nomark _)) pa_nil)))) (pa_cons (pe_op op_add_str (pv 5) (pv 4)) (pa_cons (pe_op op_add_str (pe_op op_add_str (pe_op op_repS (pe_ix ix_str (pv 3) (pv 1) (fun _ _ => rfl)) pe_int) (pv 4)) (pv 5)) (pa_cons (pe_op op_add_str (pe_op op_add_str (pv 4) (pv 5)) (pe_op op_repS (pe_ix ix_str (pv 3) (pv 1) (fun _ _ => rfl)) pe_int)) pa_nil))))))
      (pss_cons (ps_set (i := 6) scName.nd rfl (by first | exact .inl rfl | exact .inr rfl) (pe_op op_cat (pv 6) (pe_lst (pa_cons (pe_op op_add_str (pe_op op_add_str (pv 5) (pe_op op_repS (pe_ix ix_str (pv 3) (pv 1) (fun _ _ => rfl)) pe_int)) (pv 4)) (pa_cons (pe_op op_add_str (pe_op op_add_str (pe_slice sl_str (pv 3) (po_some (pv 1)) (po_some (pe_op op_add (pv 1) pe_int))) (pv 5)) (pe_op op_repS (pv 4) (pe_op op_add pe_int (pe_op op_mod (pv 2) pe_int)))) pa_nil)))))
      (pss_one (ps_ret (pe_ix ix_list (pv 6) (pv 0) (fun _ _ => rfl))))))))), ?_⟩
    have Z : abc.length ≤ sizeLine := by rw [abc_len]; decide
    -- one
    have o0 := modlt (a := (number : Int) + sign) (b := 26) (by decide)
    refine ⟨.str abc, rfl, .int number, rfl, .int sign, rfl, number, sign, rfl, rfl, _, 26, rfl, rfl, (by show (0 : Int) < 26; decide), abc, _, _, rfl, rfl, Z, abc_at o0.1 o0.2, ?_⟩
    have A1 : Abc 1 ⟨#[97 + (((number : Int) + sign) % 26).toNat]⟩ := .one (by omega) (by omega)
    -- more
    have o2 := modlt (a := (number : Int) / 26 * 5 + sign) (b := 26) (by decide)
    refine ⟨.str abc, rfl, .int number, rfl, number, 26, rfl, rfl, ⟨by decide, by decide⟩, (number : Int) / 26, 5, rfl, rfl, .inr ⟨by decide, by decide⟩, .int sign, rfl, _, sign, rfl, rfl, _, 26, rfl, rfl, (by show (0 : Int) < 26; decide), abc, _, _, rfl, rfl, Z, abc_at o2.1 o2.2, ?_⟩
    have A2 : Abc 1 ⟨#[97 + (((number : Int) / 26 * 5 + sign) % 26).toNat]⟩ := .one (by omega) (by omega)
    generalize hone : (⟨#[97 + (((number : Int) + sign) % 26).toNat]⟩ : Str) = one at *
    generalize hmore : (⟨#[97 + (((number : Int) / 26 * 5 + sign) % 26).toNat]⟩ : Str) = more at *
    obtain ⟨l2, hl2⟩ : ∃ l2 : Str, l2 = ⟨#[97 + (sign : Int).toNat]⟩ := ⟨_, rfl⟩
    have A3 : Abc 1 l2 := hl2 ▸ .one (by omega) (by omega)
    have at3 : atI abc.cps.toList (sign : Int) = some (97 + (sign : Int).toNat) := abc_at (by omega) (by omega)
    -- one + more * int(number > 25)
    refine ⟨.str one, rfl, .str more, rfl, .int number, rfl, number, 25, rfl, rfl, .inr ⟨_, rfl, more, _, rfl, rfl, ?_, ?_, ?_, fun r1 hr1 => ?_⟩⟩
    · split <;> decide
    · split <;> decide
    · rw [A2.1]; decide
    have k1 : ∃ k : Nat, k ≤ 1 ∧ Abc (1 * k) r1 := by
      by_cases c : (25 : Int) < number
      · rw [decide_eq_true c] at hr1
        exact ⟨1, Nat.le_refl _, A2.rep hr1⟩
      · rw [decide_eq_false c] at hr1
        exact ⟨0, Nat.zero_le _, A2.rep hr1⟩
    obtain ⟨k, hk, B1⟩ := k1
    refine ⟨one, r1, rfl, rfl, A1.le2 B1 (by omega), ?_⟩
    have E1 := A1.app B1
    -- more + one
    refine ⟨.str more, rfl, .str one, rfl, more, one, rfl, rfl, A2.le2 A1 (by decide), ?_⟩
    have E2 := A2.app A1
    -- letters[sign] * 2 + one + more
    refine ⟨.str abc, rfl, .int sign, rfl, abc, _, _, rfl, rfl, Z, at3, _, 2, rfl, rfl, by decide, by decide, (by rw [← hl2, A3.1]; decide), fun r2 hr2 => ?_⟩
    rw [← hl2] at hr2
    have C2 : Abc (1 * 2) r2 := A3.rep hr2
    refine ⟨.str one, rfl, r2, one, rfl, rfl, C2.le2 A1 (by decide), .str more, rfl, _, more, rfl, rfl, (C2.app A1).le2 A2 (by decide), ?_⟩
    have E3 := (C2.app A1).app A2
    -- one + more + letters[sign] * 2
    refine ⟨.str one, rfl, .str more, rfl, one, more, rfl, rfl, A1.le2 A2 (by decide), ?_⟩
    refine ⟨.str abc, rfl, .int sign, rfl, abc, _, _, rfl, rfl, Z, at3, _, 2, rfl, rfl, by decide, by decide, (by rw [← hl2, A3.1]; decide), fun r3 hr3 => ?_⟩
    rw [← hl2] at hr3
    have C3 : Abc (1 * 2) r3 := A3.rep hr3
    refine ⟨_, r3, rfl, rfl, (A1.app A2).le2 C3 (by decide), ?_⟩
    have E4 := (A1.app A2).app C3
    refine ⟨(by show 4 ≤ sizeLine; decide), fun l nl => ?_⟩
    -- sorts + [..]
    refine ⟨.ref l, rfl, ?_⟩
    refine ⟨.str more, rfl, .str abc, rfl, .int sign, rfl, abc, _, _, rfl, rfl, Z, at3, _, 2, rfl, rfl, by decide, by decide, (by rw [← hl2, A3.1]; decide), fun r4 hr4 => ?_⟩
    rw [← hl2] at hr4
    have C4 : Abc (1 * 2) r4 := A3.rep hr4
    refine ⟨more, r4, rfl, rfl, A2.le2 C4 (by decide), .str one, rfl, _, one, rfl, rfl, (A2.app C4).le2 A1 (by decide), ?_⟩
    have E5 := (A2.app C4).app A1
    refine ⟨.str abc, rfl, .int sign, rfl, sign, rfl, .int sign, rfl, sign, 1, rfl, rfl, _, rfl, abc, rfl, Z, .str more, rfl, _, more, rfl, rfl, ?_, ?_⟩
    · rw [abc_cut sign h2]
      exact Abc.le2 (.one (by omega) (by omega)) A2 (by decide)
    rw [abc_cut sign h2]
    have A4 : Abc 1 ⟨#[97 + sign]⟩ := .one (by omega) (by omega)
    generalize (⟨#[97 + sign]⟩ : Str) = l4 at *
    have o5 := modlt (a := (number : Int)) (b := 2) (by decide)
    refine ⟨.str one, rfl, .int number, rfl, number, 2, rfl, rfl, (by show (0 : Int) < 2; decide), 1, _, rfl, rfl, one, _, rfl, rfl, ?_, ?_, (by rw [A1.1]; decide), fun r5 hr5 => ?_⟩
    · show 0 ≤ 1 + (number : Int) % 2
      omega
    · show 1 + (number : Int) % 2 ≤ 1000
      omega
    have C5 : Abc (1 * (1 + (number : Int) % 2).toNat) r5 := A1.rep hr5
    have n5 : 1 ≤ 1 * (1 + (number : Int) % 2).toNat ∧ 1 * (1 + (number : Int) % 2).toNat ≤ 2 := by omega
    refine ⟨_, r5, rfl, rfl, (A4.app A2).le2 C5 (by omega), ?_⟩
    have E6 := (A4.app A2).app C5
    refine ⟨(by show 2 ≤ sizeLine; decide), fun m nm => ?_⟩
    have S1 := same_upd (o := .lst [.str (one ++ r1), .str (more ++ one), .str (r2 ++ one ++ more), .str (one ++ more ++ r3)]) nl
    have e1 : (upd H l (.lst [.str (one ++ r1), .str (more ++ one), .str (r2 ++ one ++ more), .str (one ++ more ++ r3)])) l = some (.lst [.str (one ++ r1), .str (more ++ one), .str (r2 ++ one ++ more), .str (one ++ more ++ r3)]) := upd_same
    generalize (upd H l (.lst [.str (one ++ r1), .str (more ++ one), .str (r2 ++ one ++ more), .str (one ++ more ++ r3)])) = H1 at *
    have S2 := same_upd (o := .lst [.str (more ++ r4 ++ one), .str (l4 ++ more ++ r5)]) nm
    have e2 : (upd H1 m (.lst [.str (more ++ r4 ++ one), .str (l4 ++ more ++ r5)])) m = some (.lst [.str (more ++ r4 ++ one), .str (l4 ++ more ++ r5)]) := upd_same
    have e1' := S2 _ _ e1
    refine ⟨l, m, _, _, rfl, rfl, e1', e2, (by show 6 ≤ sizeLine; decide), fun p np => ?_⟩
    have S := (S1.trans S2).trans (same_upd (o := .lst ([.str (one ++ r1), .str (more ++ one), .str (r2 ++ one ++ more), .str (one ++ more ++ r3)] ++ [.str (more ++ r4 ++ one), .str (l4 ++ more ++ r5)])) np)
    refine ⟨.ref p, rfl, .int style, rfl, ?_⟩
    have hst : style = 0 ∨ style = 1 ∨ style = 2 ∨ style = 3 ∨ style = 4 ∨ style = 5 := by omega
    rcases hst with rfl | rfl | rfl | rfl | rfl | rfl
    · exact ⟨p, _, 0, _, rfl, rfl, .inl (.inl upd_same), atI_nat (j := 0) rfl, q _ _ S (E1.name (by omega) (by omega))⟩
    · exact ⟨p, _, 1, _, rfl, rfl, .inl (.inl upd_same), atI_nat (j := 1) rfl, q _ _ S (E2.name (by omega) (by omega))⟩
    · exact ⟨p, _, 2, _, rfl, rfl, .inl (.inl upd_same), atI_nat (j := 2) rfl, q _ _ S (E3.name (by omega) (by omega))⟩
    · exact ⟨p, _, 3, _, rfl, rfl, .inl (.inl upd_same), atI_nat (j := 3) rfl, q _ _ S (E4.name (by omega) (by omega))⟩
    · exact ⟨p, _, 4, _, rfl, rfl, .inl (.inl upd_same), atI_nat (j := 4) rfl, q _ _ S (E5.name (by omega) (by omega))⟩
    · exact ⟨p, _, 5, _, rfl, rfl, .inl (.inl upd_same), atI_nat (j := 5) rfl, q _ _ S (E6.name (by omega) (by omega))⟩
end
end L_k02

namespace L_k02
open PySem PySem.Spec PyProof.Rows L2 Lot
abbrev sNames : Stmt := topS 18
theorem scNames : FnScope ["pot", "many", "style", "sign", "some", "few", "number"] ["pot", "many"] (defScope sNames) := ⟨rfl, rfl, rfl, by decide +kernel, rfl, by decide +kernel, by decide +kernel⟩
abbrev sMixed : Stmt := topS 19
theorem scMixed : FnScope ["pot", "things", "left", "k"] ["pot", "things"] (defScope sMixed) := ⟨rfl, rfl, rfl, by decide +kernel, rfl, by decide +kernel, by decide +kernel⟩
section
variable {P : Program} {w : World} {K : PySem.W.Frag} {mg : Str → Option Value} {base : Heap}
def spNames : Sp := fun vs H Q _ => ∃ (p : Addr) (many : Nat) (N : Nat), vs = [.ref p, .int many] ∧ 1 ≤ many ∧ many ≤ 36 ∧ PotAt H p N ∧ N ≤ 1000 ∧
  ∀ H' l (zs : List Str), But p H H' → PotAt H' p (N + 5) → H l = none → H' l = some (.lst (zs.map V.str)) → zs.length = many → (∀ z ∈ zs, NameOk z) → Q (.ref l) H'
theorem ok_names {f fD fN : Addr} {fd fdD fdN : FuncData} (F : Fun K "_law_names" "_law_names" sNames f fd) (D__law_dip : Def P w K mg base 1 "_law_dip" ["pot", "many"] spDip fD fdD) (D__law_name : Def P w K mg base 1 "_law_name" ["style", "sign", "number"] spName fN fdN)
    (m_max : mg "max" = none) (m_range : mg "range" = none) : FnOk P w K mg base CX0 2 f fd ["pot", "many"] spNames := by
  refine F.ok scNames (fun vs H Q E h => ?_) (fun cdv A outer s H vs Q E hr h => ?_)
  · obtain ⟨p, most, N, rfl, _⟩ := h
    rfl
  · obtain ⟨p, many, N, rfl, hm1, hm2, hP, hN, q⟩ := h
    refine ⟨_, (pss_cons (ps_set (i := 2) scNames.nd rfl (by first | exact .inl rfl | exact .inr rfl) (pe_call D__law_dip.ok (hr.mono (by decide)) (by rfl) D__law_dip.g D__law_dip.kp D__law_dip.b .nil pass0 (pa_cons (pv 0) (pa_cons pe_int pa_nil))))
      (pss_cons (ps_set (i := 3) scNames.nd rfl (by first | exact .inl rfl | exact .inr rfl) (pe_call D__law_dip.ok (hr.mono (by decide)) (by rfl) D__law_dip.g D__law_dip.kp D__law_dip.b .nil pass0 (pa_cons (pv 0) (pa_cons pe_int pa_nil))))
      (pss_cons (ps_set (i := 4) scNames.nd rfl (by first | exact .inl rfl | exact .inr rfl) (pe_callB (call_max2 rfl) (by rfl) m_max (by decide +kernel) (pa_cons pe_int (pa_cons (pe_op op_sub (pe_op op_sub (pv 1) pe_int) (pe_call D__law_dip.ok (hr.mono (by decide)) (by rfl) D__law_dip.g D__law_dip.kp D__law_dip.b .nil pass0 (pa_cons (pv 0) (pa_cons pe_int pa_nil)))) pa_nil))))
      (pss_cons (ps_set (i := 5) scNames.nd rfl (by first | exact .inl rfl | exact .inr rfl) (pe_ix ix_list (pe_lst (pa_cons pe_int (pa_cons pe_int (pa_cons (pe_op op_add pe_int (pe_call D__law_dip.ok (hr.mono (by decide)) (by rfl) D__law_dip.g D__law_dip.kp D__law_dip.b .nil pass0 (pa_cons (pv 0) (pa_cons pe_int pa_nil)))) (pa_cons (pv 4) pa_nil))))) (pe_call D__law_dip.ok (hr.mono (by decide)) (by rfl) D__law_dip.g D__law_dip.kp D__law_dip.b .nil pass0 (pa_cons (pv 0) (pa_cons pe_int pa_nil))) (fun _ _ => rfl)))
      (pss_one (ps_ret (pe_lc (own := [("number", 6)]) (g := gName 6) (tt := tYes) rfl scNames.nd (pi_range1 (by rfl) m_range (pa_cons (pv 1) pa_nil)) (blkOk_by (own := [("number", 6)]) (N := ["pot", "many", "style", "sign", "some", "few", "number"]) (sc := defScope sNames) (by decide +kernel)) (fun _ _ _ _ _ => (pg_name (i := 6) scNames.nd rfl (by first | exact .inl rfl | exact .inr rfl))) (fun _ _ _ _ _ => pts_nil) (fun _ _ _ _ _ => by exact (pe_call D__law_name.ok (hr.mono (by decide)) (by rfl) D__law_name.g D__law_name.kp D__law_name.b .nil pass0 (pa_cons (pv 2) (pa_cons (pv 3) (pa_cons (pe_op op_mod (pv 6) (pv 5)) pa_nil)))))))))))), ?_⟩
    refine ⟨.ref p, rfl, p, 6, N, rfl, by decide, by decide, hP, by omega, fun style ws1 hst hw1 => ?_⟩
    have P1 : PotAt (upd H p (.lst ws1)) p (N + 1) := PotAt.upd hw1
    have B1 : But p H (upd H p (.lst ws1)) := But.upd
    generalize (upd H p (.lst ws1)) = H1 at *
    refine ⟨.ref p, rfl, p, 26, N + 1, rfl, by decide, by decide, P1, by omega, fun sign ws2 hsg hw2 => ?_⟩
    have P2 : PotAt (upd H1 p (.lst ws2)) p (N + 2) := PotAt.upd hw2
    have B2 : But p H (upd H1 p (.lst ws2)) := B1.trans But.upd
    generalize (upd H1 p (.lst ws2)) = H2 at *
    refine ⟨.int many, rfl, many, 1, rfl, rfl, .ref p, rfl, p, 3, N + 2, rfl, by decide, by decide, P2, by omega, fun r3 ws3 hr3 hw3 => ?_⟩
    have P3 : PotAt (upd H2 p (.lst ws3)) p (N + 3) := PotAt.upd hw3
    have B3 : But p H (upd H2 p (.lst ws3)) := B2.trans But.upd
    generalize (upd H2 p (.lst ws3)) = H3 at *
    refine ⟨(many : Int) - 1, r3, rfl, rfl, 1, (many : Int) - 1 - r3, rfl, ?_⟩
    obtain ⟨some', hsome⟩ : ∃ x : Int, x = if (many : Int) - 1 - r3 > 1 then (many : Int) - 1 - r3 else 1 := ⟨_, rfl⟩
    have s1 : 1 ≤ some' ∧ some' ≤ 36 := by
      rw [hsome]
      split <;> omega
    refine ⟨.ref p, rfl, p, 4, N + 3, rfl, by decide, by decide, P3, by omega, fun r4 ws4 hr4 hw4 => ?_⟩
    have P4 : PotAt (upd H3 p (.lst ws4)) p (N + 4) := PotAt.upd hw4
    have B4 : But p H (upd H3 p (.lst ws4)) := B3.trans But.upd
    generalize (upd H3 p (.lst ws4)) = H4 at *
    refine ⟨1, r4, rfl, rfl, .int some', congrArg (fun i => some (some (V.int i))) hsome.symm, (by show 4 ≤ sizeLine; decide), fun l nl => ?_⟩
    have P5 : PotAt (upd H4 l (.lst [.int 36, .int 36, .int (1 + (r4 : Int)), .int some'])) p (N + 4) := P4.same (same_upd nl)
    have B5 : But p H (upd H4 l (.lst [.int 36, .int 36, .int (1 + (r4 : Int)), .int some'])) := B4.trans (But.of_same (same_upd nl))
    have lp : l ≠ p := P4.ne nl
    have el : (upd H4 l (.lst [.int 36, .int 36, .int (1 + (r4 : Int)), .int some'])) l = some (.lst [.int 36, .int 36, .int (1 + (r4 : Int)), .int some']) := upd_same
    generalize (upd H4 l (.lst [.int 36, .int 36, .int (1 + (r4 : Int)), .int some'])) = H5 at *
    refine ⟨.ref p, rfl, p, 4, N + 4, rfl, by decide, by decide, P5, by omega, fun r5 ws5 hr5 hw5 => ?_⟩
    have P6 : PotAt (upd H5 p (.lst ws5)) p (N + 5) := PotAt.upd hw5
    have B6 : But p H (upd H5 p (.lst ws5)) := B5.trans But.upd
    have el6 : (upd H5 p (.lst ws5)) l = some (.lst [.int 36, .int 36, .int (1 + (r4 : Int)), .int some']) := by rw [upd_ne lp]; exact el
    generalize (upd H5 p (.lst ws5)) = H6 at *
    obtain ⟨few, hat, f1, f2⟩ : ∃ few : Int, atI ([.int 36, .int 36, .int (1 + (r4 : Int)), .int some'] : List V) (r5 : Int) = some (.int few) ∧ 1 ≤ few ∧ few ≤ 36 := by
      have hr5' : r5 = 0 ∨ r5 = 1 ∨ r5 = 2 ∨ r5 = 3 := by omega
      rcases hr5' with rfl | rfl | rfl | rfl
      · exact ⟨36, atI_nat (j := 0) rfl, by decide, by decide⟩
      · exact ⟨36, atI_nat (j := 1) rfl, by decide, by decide⟩
      · exact ⟨1 + (r4 : Int), atI_nat (j := 2) rfl, by omega, by omega⟩
      · exact ⟨some', atI_nat (j := 3) rfl, s1.1, s1.2⟩
    refine ⟨l, _, (r5 : Int), .int few, rfl, rfl, .inl (.inl el6), hat, ?_⟩
    -- the names
    refine ⟨.int many, rfl, many, rfl, by omega, by omega, fun D nD => ?_⟩
    refine lc_range (lo := 0) (n := many) (fun i H' => ∃ zs : List Str, zs.length = i ∧ (∀ z ∈ zs, NameOk z) ∧ H' D = some (.lst (zs.map V.str)) ∧ Same H6 H') ⟨[], rfl, (fun z hz => by cases hz), upd_same, same_upd nD⟩ (fun i H' hi hI => ?_) (fun H' hI => ?_)
    · obtain ⟨zs, z1, z2, z3, z4⟩ := hI
      refine ⟨rfl, ?_⟩
      have hmod := modlt (a := (0 : Int) + i) (b := few) (by omega)
      have hn : (0 + (i : Int)) % few = (((0 + (i : Int)) % few).toNat : Int) := (Int.toNat_of_nonneg hmod.1).symm
      refine ⟨.int style, rfl, .int sign, rfl, .int (0 + i), rfl, .int few, rfl, 0 + i, few, rfl, rfl, by omega, style, sign, ((0 + (i : Int)) % few).toNat, congrArg (fun z => [V.int style, V.int sign, V.int z]) hn, by omega, by omega, by omega, fun z H7 s7 hz => ?_⟩
      refine ⟨zs.map V.str, s7 _ _ z3, ?_, zs ++ [z], ?_, ?_, ?_, ?_⟩
      · rw [List.length_map]; exact small1000 (by omega)
      · rw [List.length_append, z1]; rfl
      · intro y hy
        rcases List.mem_append.mp hy with hy | hy
        · exact z2 y hy
        · rw [List.mem_singleton.mp hy]; exact hz
      · rw [upd_same, List.map_append]; rfl
      · exact same_new (z4.trans s7) nD
    · obtain ⟨zs, z1, z2, z3, z4⟩ := hI
      have Dp : D ≠ p := P6.ne nD
      exact q _ _ zs (B6.trans (But.of_same z4)) (P6.same z4) (B6.free Dp nD) z3 z1 z2
/-- _law_mixed: some arrangement of the list -/
def spMixed (K : PySem.W.Frag) : Sp := fun vs H Q _ => ∃ (p a : Addr) (xs : List V) (N : Nat), vs = [.ref p, .ref a] ∧ (SqL K H a xs ∨ SqT K H a xs) ∧ xs.length ≤ 500 ∧ PotAt H p N ∧ N ≤ 1000 ∧
  ∀ H' l ys, But p H H' → PotAt H' p (N + xs.length) → H l = none → H' l = some (.lst ys) → List.Perm ys xs → Q (.ref l) H'
theorem ok_mixed {f fD : Addr} {fd fdD : FuncData} (F : Fun K "_law_mixed" "_law_mixed" sMixed f fd) (D__law_dip : Def P w K mg base 1 "_law_dip" ["pot", "many"] spDip fD fdD)
    (m_list : mg "list" = none) (m_len : mg "len" = none) (m_range : mg "range" = none) : FnOk P w K mg base CX0 2 f fd ["pot", "things"] (spMixed K) := by
  refine F.ok scMixed (fun vs H Q E h => ?_) (fun cdv A outer s H vs Q E hr h => ?_)
  · obtain ⟨p, a, xs, N, rfl, _⟩ := h
    rfl
  · obtain ⟨p, a, xs, N, rfl, hS, hl, hP, hN, q⟩ := h
    refine ⟨_, (pss_cons (ps_set (i := 2) scMixed.nd rfl (by first | exact .inl rfl | exact .inr rfl) (pe_callTy call_list_of (by rfl) m_list (by decide +kernel) (pa_cons (pv 1) pa_nil)))
      (pss_one (ps_ret (pe_lc (own := [("k", 3)]) (g := gName 3) (tt := tYes) rfl scMixed.nd (pi_range1 (by rfl) m_range (pa_cons (pe_callB call_len_seq (by rfl) m_len PySem.boot_len (pa_cons (pv 2) pa_nil)) pa_nil)) (blkOk_by (own := [("k", 3)]) (N := ["pot", "things", "left", "k"]) (sc := defScope sMixed) (by decide +kernel)) (fun _ _ _ _ _ => (pg_name (i := 3) scMixed.nd rfl (by first | exact .inl rfl | exact .inr rfl))) (fun _ _ _ _ _ => pts_nil) (fun _ _ _ _ _ => by exact (pe_bmK (K := K) rfl (pe_bm PySem.F.plainAttrs_list PySem.F.slot_list_pop PySem.F.type_list_pop mt_popAt (pv 2) (by exact (pa_cons (pe_call D__law_dip.ok (hr.mono (by decide)) (by rfl) D__law_dip.g D__law_dip.kp D__law_dip.b .nil pass0 (pa_cons (pv 0) (pa_cons (pe_callB (call_len_seqK (K := K) rfl) (by rfl) m_len PySem.boot_len (pa_cons (pv 2) pa_nil)) pa_nil))) pa_nil))))))))), ?_⟩
    refine ⟨.ref a, rfl, a, xs, rfl, hS, fun l nl => ?_⟩
    have lp : l ≠ p := hP.ne nl
    have P1 := hP.same (same_upd (o := .lst xs) nl)
    have S1 := same_upd (o := .lst xs) nl
    have el : (upd H l (.lst xs)) l = some (.lst xs) := upd_same
    generalize (upd H l (.lst xs)) = H1 at *
    refine ⟨.ref l, rfl, l, xs, rfl, .inl (.inl (.inl el)), _, rfl, by omega, by omega, fun D nD => ?_⟩
    have Dp : D ≠ p := P1.ne nD
    have Dl : D ≠ l := fun z => by rw [z, el] at nD; cases nD
    refine lc_range (lo := 0) (n := (xs.length : Int).toNat) (fun i H' => ∃ acc left : List V, H' D = some (.lst acc) ∧ H' l = some (.lst left) ∧ acc.length = i ∧ acc.length + left.length = xs.length ∧ List.Perm (acc ++ left) xs ∧ PotAt H' p (N + i) ∧ (∀ b o, b ≠ p → b ≠ l → H1 b = some o → H' b = some o))
      ⟨[], xs, upd_same, by rw [upd_ne (Ne.symm Dl)]; exact el, rfl, by simp, List.Perm.refl _, P1.updne (Ne.symm Dp), fun b o h1 h2 h3 => by rw [upd_ne (ne_of_none h3 nD)]; exact h3⟩ (fun i H' hi hI => ?_) (fun H' hI => ?_)
    · obtain ⟨acc, left, e1, e2, e3, e4, e5, e6, e7⟩ := hI
      have hi' : i < xs.length := by omega
      have hleft : 0 < left.length := by omega
      refine ⟨rfl, ?_⟩
      refine ⟨.ref l, rfl, .inl ⟨rfl, _, .inl (.inl e2)⟩, .ref p, rfl, .ref l, rfl, l, left, rfl, .inl (.inl (.inl e2)), p, left.length, N + i, rfl, by omega, by omega, e6, by omega, fun r ws hr2 hw => ?_⟩
      have hrl : r < left.length := by omega
      have e2' : (upd H' p (.lst ws)) l = some (.lst left) := by rw [upd_ne lp]; exact e2
      refine ⟨l, left, r, r, left[r], rfl, rfl, e2', by omega, by omega, seqIx hrl, List.getElem?_eq_getElem hrl, ?_⟩
      · have e1' : (upd (upd H' p (.lst ws)) l (.lst (left.eraseIdx r))) D = some (.lst acc) := by
          rw [upd_ne Dl, upd_ne Dp]; exact e1
        refine ⟨acc, e1', small1000 (by omega), acc ++ [left[r]], left.eraseIdx r, upd_same, ?_, ?_, ?_, ?_, ?_, ?_⟩
        · rw [upd_ne (Ne.symm Dl), upd_same]
        · rw [List.length_append, e3]; rfl
        · rw [List.length_append, List.length_eraseIdx_of_lt hrl]
          simp only [List.length_singleton]
          omega
        · rw [List.append_assoc]
          exact (List.Perm.append_left acc (perm_erase (List.getElem?_eq_getElem hrl))).trans e5
        · refine ⟨ws, ?_, hw⟩
          rw [upd_ne (Ne.symm Dp), upd_ne (Ne.symm lp), upd_same]
        · intro b o h1 h2 h3
          rw [upd_ne (ne_of_none h3 nD), upd_ne h2, upd_ne h1]
          exact e7 b o h1 h2 h3
    · obtain ⟨acc, left, e1, e2, e3, e4, e5, e6, e7⟩ := hI
      have hn : left = [] := List.eq_nil_of_length_eq_zero (by omega)
      subst hn
      rw [List.append_nil] at e5
      refine q _ _ acc (fun b o hb e => e7 b o hb (ne_of_none e nl) (S1 _ _ e)) (e6.mono (by omega)) (S1.free nD) e1 e5
end
end L_k02

namespace L_k02
open PySem PySem.Spec PyProof.Rows L2 Lot
abbrev sStanding : Stmt := topS 20
theorem scStanding : FnScope ["pot", "many", "names", "name"] ["pot", "many"] (defScope sStanding) := ⟨rfl, rfl, rfl, by decide +kernel, rfl, by decide +kernel, by decide +kernel⟩
section
variable {P : Program} {w : World} {K : PySem.W.Frag} {mg : Str → Option Value} {base : Heap}
def spStanding : Sp := fun vs H Q _ => ∃ (p : Addr) (many : Nat) (N : Nat), vs = [.ref p, .int many] ∧ 1 ≤ many ∧ many ≤ 36 ∧ PotAt H p N ∧ N ≤ 900 ∧
  ∀ H' t (ths : List (Str × Nat)), But p H H' → PotAt H' p (N + 5 + 2 * many) → H t = none → StandAt H' t ths → ths.length = many → (∀ th ∈ ths, ThOk th) → Q (.ref t) H'
theorem strs_of : ∀ {ys : List V}, (∀ y ∈ ys, ∃ z : Str, y = .str z ∧ NameOk z) → ∃ ws : List Str, ys = ws.map V.str ∧ ∀ z ∈ ws, NameOk z
  | [], _ => ⟨[], rfl, fun z hz => nomatch hz⟩
  | y :: r, h => by
    obtain ⟨ws, e, k⟩ := strs_of (ys := r) fun x hx => h x (List.mem_cons_of_mem _ hx)
    obtain ⟨z, rfl, hz⟩ := h y List.mem_cons_self
    refine ⟨z :: ws, by rw [e]; rfl, fun x hx => ?_⟩
    rcases List.mem_cons.mp hx with rfl | hx
    · exact hz
    · exact k x hx
theorem ok_standing {f fD fN fM : Addr} {fd fdD fdN fdM : FuncData} (F : Fun K "_law_standing" "_law_standing" sStanding f fd) (D__law_dip : Def P w K mg base 1 "_law_dip" ["pot", "many"] spDip fD fdD) (D__law_names : Def P w K mg base 2 "_law_names" ["pot", "many"] spNames fN fdN)
    (D__law_mixed : Def P w K mg base 2 "_law_mixed" ["pot", "things"] (spMixed K) fM fdM) (m_tuple : mg "tuple" = none) : FnOk P w K mg base CX0 3 f fd ["pot", "many"] spStanding := by
  refine F.ok scStanding (fun vs H Q E h => ?_) (fun cdv A outer s H vs Q E hr h => ?_)
  · obtain ⟨p, most, N, rfl, _⟩ := h
    rfl
  · obtain ⟨p, many, N, rfl, hm1, hm2, hP, hN, q⟩ := h
    refine ⟨_, (pss_cons (ps_set (i := 2) scStanding.nd rfl (by first | exact .inl rfl | exact .inr rfl) (pe_call D__law_mixed.ok (hr.mono (by decide)) (by rfl) D__law_mixed.g D__law_mixed.kp D__law_mixed.b .nil pass0 (pa_cons (pv 0) (pa_cons (pe_call D__law_names.ok (hr.mono (by decide)) (by rfl) D__law_names.g D__law_names.kp D__law_names.b .nil pass0 (pa_cons (pv 0) (pa_cons (pv 1) pa_nil))) pa_nil))))
      (pss_one (ps_ret (pe_callTy call_tuple_of (by rfl) m_tuple (by decide +kernel) (pa_cons (pe_lc (own := [("name", 3)]) (g := gName 3) (tt := tYes) rfl scStanding.nd (pi_list (pv 2)) (blkOk_by (own := [("name", 3)]) (N := ["pot", "many", "names", "name"]) (sc := defScope sStanding) (by decide +kernel)) (fun _ _ _ _ _ => (pg_name (i := 3) scStanding.nd rfl (by first | exact .inl rfl | exact .inr rfl))) (fun _ _ _ _ _ => pts_nil) (fun _ _ _ _ _ => by exact (pe_tup (pa_cons (pv 3) (pa_cons (pe_call D__law_dip.ok (hr.mono (by decide)) (by rfl) D__law_dip.g D__law_dip.kp D__law_dip.b .nil pass0 (pa_cons (pv 0) (pa_cons pe_int pa_nil))) pa_nil))))) pa_nil))))), ?_⟩
    refine ⟨.ref p, rfl, .ref p, rfl, .int many, rfl, p, many, N, rfl, hm1, hm2, hP, by omega, fun H1 l zs B1 P1 nl el hlen hok => ?_⟩
    have hzl : (zs.map V.str).length = many := by rw [List.length_map, hlen]
    refine ⟨p, l, zs.map V.str, N + 5, rfl, .inl (.inl (.inl el)), by omega, P1, by omega, fun H2 m ys B2 P2 nm em perm => ?_⟩
    have B3 := B1.trans B2
    rw [hzl] at P2
    obtain ⟨ws, rfl, hws⟩ := strs_of (ys := ys) fun y hy => by
      obtain ⟨z, hz, rfl⟩ := List.mem_map.mp (perm.subset hy)
      exact ⟨z, rfl, hok z hz⟩
    have hwl : ws.length = many := by
      have := perm.length_eq
      rw [List.length_map, hzl] at this
      exact this
    refine ⟨.ref m, rfl, m, rfl, ⟨_, .inl (.inl em)⟩, fun D nD => ?_⟩
    have Dp : D ≠ p := P2.ne nD
    have mp : m ≠ p := P1.ne nm
    refine lc_list (K := K) (a := m) (xs := ws.map V.str) (fun i H' => ∃ (as : List Addr) (ths : List (Str × Nat)), H' D = some (.lst (as.map V.ref)) ∧ Things H' as ths ∧ ths.length = i ∧ (∀ th ∈ ths, ThOk th) ∧ But p H2 H' ∧ PotAt H' p (N + 5 + many + i))
      ⟨[], [], upd_same, trivial, rfl, (fun th hth => nomatch hth), But.of_same (same_upd nD), P2.updne (Ne.symm Dp)⟩ (fun i H' hi hI => ?_) (fun i y H' hy hI => ?_) (fun H' hI => ?_)
    · obtain ⟨as, ths, e1, e2, e3, e4, e5, e6⟩ := hI
      exact .inl (.inl (e5 _ _ mp em))
    · obtain ⟨as, ths, e1, e2, e3, e4, e5, e6⟩ := hI
      obtain ⟨z, hz, rfl⟩ : ∃ z, ws[i]? = some z ∧ y = V.str z := by
        rw [List.getElem?_map] at hy
        cases e : ws[i]? with
        | none => rw [e] at hy; cases hy
        | some z => rw [e] at hy; exact ⟨z, rfl, (Option.some.inj hy).symm⟩
      have hi : i < ws.length := (List.getElem?_eq_some_iff.mp hz).1
      have hzok := hws z (List.mem_of_getElem? hz)
      refine ⟨rfl, ?_⟩
      refine ⟨.str z, rfl, .ref p, rfl, p, 2, N + 5 + many + i, rfl, by decide, by decide, e6, by omega, fun r ws2 hr2 hw2 => ?_⟩
      have e1a : (upd H' p (.lst ws2)) D = some (.lst (as.map V.ref)) := by rw [upd_ne Dp]; exact e1
      have e2a : Things (upd H' p (.lst ws2)) as ths := e2.but But.upd e6.is
      have e5a : But p H2 (upd H' p (.lst ws2)) := e5.trans But.upd
      have e6a : PotAt (upd H' p (.lst ws2)) p (N + 5 + many + i + 1) := PotAt.upd hw2
      generalize (upd H' p (.lst ws2)) = H3 at *
      refine ⟨(by show 2 ≤ sizeLine; decide), fun t nt => ?_⟩
      have Dt : D ≠ t := fun z => by rw [← z, e1a] at nt; cases nt
      have e1b : (upd H3 t (.tup [.str z, .int r])) D = some (.lst (as.map V.ref)) := by rw [upd_ne Dt]; exact e1a
      have e2b : Things (upd H3 t (.tup [.str z, .int r])) (as ++ [t]) (ths ++ [(z, r)]) := Things.snoc (u := (z, r)) upd_same (e2a.same (same_upd nt))
      have e5b : But p H2 (upd H3 t (.tup [.str z, .int r])) := e5a.trans (But.of_same (same_upd nt))
      have e6b : PotAt (upd H3 t (.tup [.str z, .int r])) p (N + 5 + many + i + 1) := e6a.same (same_upd nt)
      have hal := e2a.length
      refine ⟨as.map V.ref, e1b, ?_, as ++ [t], ths ++ [(z, r)], ?_, ?_, ?_, ?_, ?_, ?_⟩
      · rw [List.length_map]; exact small1000 (by omega)
      · rw [upd_same, List.map_append]; rfl
      · exact e2b.but But.upd ⟨_, e1b⟩
      · rw [List.length_append, e3]; rfl
      · intro th hth
        rcases List.mem_append.mp hth with hth | hth
        · exact e4 th hth
        · rw [List.mem_singleton.mp hth]
          exact ⟨hzok, by show r < 2; omega⟩
      · exact e5b.new nD
      · exact e6b.updne (Ne.symm Dp)
    · obtain ⟨as, ths, e1, e2, e3, e4, e5, e6⟩ := hI
      rw [List.length_map, hwl] at e3 e6
      refine ⟨D, _, rfl, .inl ⟨.inl (.inl e1), fun t nt => ?_⟩⟩
      have tp : t ≠ p := e6.ne nt
      have B4 := B3.trans e5
      refine q _ t ths (B4.trans (But.of_same (same_upd nt))) ((e6.same (same_upd nt)).mono (by omega)) (B4.free tp nt) ⟨as, upd_same, e2.same (same_upd nt)⟩ e3 e4
end
end L_k02

namespace L_k02
open PySem PySem.Spec PyProof.Rows L2 Lot
abbrev sText : Stmt := topS 21
theorem scText : FnScope ["board", "standing", "words", "cell", "name", "face"] ["board", "standing"] (defScope sText) := ⟨rfl, rfl, rfl, by decide +kernel, rfl, by decide +kernel, by decide +kernel⟩
section
variable {P : Program} {w : World} {K : PySem.W.Frag} {mg : Str → Option Value} {base : Heap}
def spText (K : PySem.W.Frag) : Sp := fun vs H Q _ => ∃ (b t : Addr) (bd : Bd) (ths : List (Str × Nat)), vs = [.ref b, .ref t] ∧ H b = some (.tup bd.vals) ∧ bd.Ok 36 ∧ StandAt H t ths ∧ ths.length ≤ 36 ∧ (∀ th ∈ ths, ThOk th) ∧
  ∀ H', Same H H' → Q (.str (textOf bd ths)) H'
theorem ok_text {f : Addr} {fd : FuncData} (F : Fun K "_law_text" "_law_text" sText f fd) (m_range : mg "range" = none) (m_len : mg "len" = none) : FnOk P w K mg base CX0 1 f fd ["board", "standing"] (spText K) := by
  refine F.ok scText (fun vs H Q E h => ?_) (fun cdv A outer s H vs Q E hr h => ?_)
  · obtain ⟨b, t, bd, ths, rfl, _⟩ := h
    rfl
  · obtain ⟨b, t, bd, ths, rfl, hB, ok, ⟨as, hT, hTh⟩, hlen, hok, q⟩ := h
    have hal := hTh.length
    refine ⟨_, (pss_cons (ps_set (i := 2) scText.nd rfl (by first | exact .inl rfl | exact .inr rfl) (pe_lst pa_nil))
      (pss_cons (ps_for PassesOwn.never rfl (pi_range1 (by rfl) m_range (pa_cons (pe_callB call_len_seq (by rfl) m_len PySem.boot_len (pa_cons (pv 1) pa_nil)) pa_nil)) (pg_name (i := 3) scText.nd rfl (by first | exact .inl rfl | exact .inr rfl)) (C8.pss_cut (ps_if (PW.pt (pw_and (pt_cmpR op_eq (pe_ix ix_tup (pv 0) pe_int (fun _ _ => rfl)) pe_str (nomark _)) (pw_and (pt_cmpR op_gt (pv 3) pe_int (nomark _)) (pw_and1 (pt_cmpR op_eq (pe_op op_mod (pv 3) (pe_ix ix_tup (pv 0) pe_int (fun _ _ => rfl))) pe_int (nomark _)))))) (pss_one (ps_expr (pe_bm PySem.F.plainAttrs_list PySem.F.slot_list_append PySem.F.type_list_append mt_append (pv 2) (pa_cons pe_str pa_nil)))) pss_nil)
      (pss_cons (ps_asg (pe_ix ix_tup (pv 1) (pv 3) (fun _ _ => rfl)) (pg_tup (by rfl) (pgs_cons (pg_name (i := 4) scText.nd rfl (by first | exact .inl rfl | exact .inr rfl)) (pgs_cons (pg_name (i := 5) scText.nd rfl (by first | exact .inl rfl | exact .inr rfl)) pgs_nil))))
      (pss_one (ps_expr (pe_bm PySem.F.plainAttrs_list PySem.F.slot_list_append PySem.F.type_list_append mt_append (pv 2) (pa_cons (pe_op op_add_str (pe_ix ix_list (pe_lst (pa_cons pe_str (pa_cons pe_str pa_nil))) (pv 5) (fun _ _ => rfl)) (pv 4)) pa_nil)))))))
      (pss_one (ps_ret (pe_join pe_str (pv 2)))))), ?_⟩
    refine ⟨Nat.zero_le _, fun W nW => ?_⟩
    have hT1 : (upd H W (.lst [])) t = some (.tup (as.map V.ref)) := same_upd nW _ _ hT
    refine ⟨.ref t, rfl, t, _, rfl, .inr (.inl (.inl hT1)), _, rfl, by omega, by rw [List.length_map]; omega, ?_⟩
    refine for_range (lo := 0) (n := (((as.map V.ref).length : Nat) : Int).toNat) (fun i σ H' => ∃ y3 y4 y5, σ = [some (.ref b), some (.ref t), some (.ref W), y3, y4, y5] ∧ H' W = some (.lst ((wordsFrom bd 0 (ths.take i)).map V.str)) ∧ Same H H')
      ⟨none, none, none, rfl, upd_same, same_upd nW⟩ (fun i σ H' hi hI => ?_) (fun σ H' hI => ?_)
    · obtain ⟨y3, y4, y5, rfl, e1, e2⟩ := hI
      have hi' : i < ths.length := by
        rw [List.length_map, hal] at hi
        omega
      obtain ⟨th, hth⟩ : ∃ th, ths[i]? = some th := ⟨_, List.getElem?_eq_getElem hi'⟩
      have htk := hok th (List.mem_of_getElem? hth)
      obtain ⟨a, ha, hat⟩ := hTh.get hth
      have bnd : ∀ n, (wordsFrom bd 0 (ths.take n)).length ≤ 72 := fun n => by
        have := (words_ok bd (ths.take n) 0 fun x hx => hok x (List.mem_of_mem_take hx)).2
        rw [List.length_take] at this
        omega
      have hB2 : SqT K H' b bd.vals := .inl (.inl (e2 _ _ hB))
      have addW : ∀ H2, H2 = upd H' W (.lst ((wordsFrom bd 0 (ths.take i)).map V.str ++ [.str slash])) → bd.edge i = true → H2 W = some (.lst ((wordsFrom bd 0 (ths.take i) ++ (if bd.edge i then [slash] else [])).map V.str)) ∧ Same H H2 := fun H2 e ed => by
        subst e
        refine ⟨?_, same_new e2 nW⟩
        rw [upd_same, ed, if_pos rfl, List.map_append]
        rfl
      have noW : bd.edge i = false → H' W = some (.lst ((wordsFrom bd 0 (ths.take i) ++ (if bd.edge i then [slash] else [])).map V.str)) ∧ Same H H' := fun ed => by
        rw [ed, if_neg (by decide), List.append_nil]
        exact ⟨e1, e2⟩
      refine ⟨fun σ2 H2 => (∃ y4 y5, σ2 = [some (.ref b), some (.ref t), some (.ref W), some (.int (0 + (i : Int))), y4, y5]) ∧ H2 W = some (.lst ((wordsFrom bd 0 (ths.take i) ++ (if bd.edge i then [slash] else [])).map V.str)) ∧ Same H H2, ?_, ?_⟩
      · cases bd with
        | row n =>
          refine ⟨.ref b, rfl, b, _, 0, _, rfl, rfl, hB2, atI_nat (j := 0) rfl, rfl, _, rfl, iteN (by decide +kernel) ?_⟩
          exact ⟨⟨_, _, rfl⟩, noW rfl⟩
        | ring n =>
          refine ⟨.ref b, rfl, b, _, 0, _, rfl, rfl, hB2, atI_nat (j := 0) rfl, rfl, _, rfl, iteN (by decide +kernel) ?_⟩
          exact ⟨⟨_, _, rfl⟩, noW rfl⟩
        | floor h w =>
          refine ⟨.ref b, rfl, b, _, 0, _, rfl, rfl, hB2, atI_nat (j := 0) rfl, rfl, _, rfl, iteP (by decide +kernel) ?_⟩
          refine ⟨.int (0 + (i : Int)), rfl, 0 + (i : Int), 0, rfl, rfl, _, rfl, ite2 (fun e => ?_) (fun e => ?_)⟩
          · have e0 : 0 < i := by
              have := of_decide_eq_true e
              omega
            obtain ⟨o1, o2, o3⟩ := ok
            refine ⟨.int (0 + (i : Int)), rfl, .ref b, rfl, b, _, 2, .int w, rfl, rfl, hB2, atI_nat (j := 2) rfl, 0 + (i : Int), w, rfl, rfl, by omega, rfl, _, rfl, ite2 (fun e => ?_) (fun e => ?_)⟩
            · have e1m : (0 + (i : Int)) % w = 0 := V.int.inj (of_decide_eq_true e)
              have em : i % w = 0 := by
                rw [Int.zero_add] at e1m
                have : ((i % w : Nat) : Int) = 0 := by rw [Int.natCast_emod]; exact e1m
                omega
              have ed : (Bd.floor h w).edge i = true := by
                show (decide _ && decide _) = true
                rw [decide_eq_true e0, decide_eq_true em]; rfl
              refine ⟨.ref W, rfl, .inl ⟨rfl, _, .inl (.inl e1)⟩, W, _, _, rfl, rfl, e1, ?_, ⟨_, _, rfl⟩, addW _ rfl ed⟩
              rw [List.length_map]
              have := bnd i
              exact small1000 (by omega)
            · refine ⟨⟨_, _, rfl⟩, noW ?_⟩
              show (decide _ && decide _) = false
              rw [Bool.and_eq_false_iff]
              refine .inr (decide_eq_false fun z => e (decide_eq_true ?_))
              show V.int ((0 + (i : Int)) % w) = V.int 0
              rw [Int.zero_add, ← Int.natCast_emod, z]
              rfl
          · refine ⟨⟨_, _, rfl⟩, noW ?_⟩
            show (decide _ && decide _) = false
            rw [Bool.and_eq_false_iff]
            refine .inl (decide_eq_false fun z => e (decide_eq_true ?_))
            show (0 : Int) < 0 + (i : Int)
            omega
      · rintro σ2 H2 ⟨⟨y4, y5, rfl⟩, g1, g2⟩
        have hT2 : SqT K H2 t (as.map V.ref) := .inl (.inl (g2 _ _ hT))
        refine ⟨.ref t, rfl, .int (0 + (i : Int)), rfl, t, _, 0 + (i : Int), .ref a, rfl, rfl, hT2, at_of (j := i) (by omega) (by rw [List.getElem?_map, ha]; rfl), ?_⟩
        refine ⟨a, [.str th.1, .int th.2], rfl, .inl (.inl (g2 _ _ hat)), rfl, .str th.1, [.int th.2], rfl, .int th.2, [], rfl, rfl, ?_⟩
        refine ⟨.ref W, rfl, .inl ⟨rfl, _, .inl (.inl g1)⟩, (by show 2 ≤ sizeLine; decide), fun L nL => ?_⟩
        have WL : W ≠ L := fun z => by rw [← z, g1] at nL; cases nL
        have g1' : (upd H2 L (.lst [.str (Str.ofString ""), .str (Str.ofString "-")])) W = some (.lst ((wordsFrom bd 0 (ths.take i) ++ (if bd.edge i then [slash] else [])).map V.str)) := by rw [upd_ne WL]; exact g1
        have hd : atI ([.str (Str.ofString ""), .str (Str.ofString "-")] : List V) (th.2 : Int) = some (.str (dash th.2)) := by
          have := htk.2
          have h2 : th.2 = 0 ∨ th.2 = 1 := by omega
          rcases h2 with h2 | h2
          · rw [h2]; exact atI_nat (j := 0) rfl
          · rw [h2]; exact atI_nat (j := 1) rfl
        refine ⟨.int th.2, rfl, L, _, _, _, rfl, rfl, .inl (.inl upd_same), hd, .str th.1, rfl, dash th.2, th.1, rfl, rfl, ?_, ?_⟩
        · have e := word_len htk
          have e2 : (word th).length = (dash th.2).length + th.1.length := str_app_len _ _
          have e3 : 5 ≤ sizeLine := by decide
          omega
        · refine ⟨W, _, _, rfl, rfl, g1', ?_, some (.int (0 + (i : Int))), some (.str th.1), some (.int th.2), rfl, ?_, ?_⟩
          · rw [List.length_map, List.length_append]
            have := bnd i
            have : (if bd.edge i then [slash] else []).length ≤ 1 := by split <;> decide
            exact small1000 (by omega)
          · rw [upd_same, wordsFrom_take bd hth]
            unfold cellWords
            rw [← List.append_assoc, List.map_append, List.map_append, List.map_append]
            rfl
          · exact same_new (g2.trans (same_upd nL)) nW
    · obtain ⟨y3, y4, y5, rfl, e1, e2⟩ := hI
      have en : ths.take (((as.map V.ref).length : Nat) : Int).toNat = ths := List.take_of_length_le (by rw [List.length_map]; omega)
      rw [en] at e1
      have wo := words_ok bd ths 0 hok
      refine ⟨⟨_, rfl⟩, .ref W, rfl, Str.ofString " ", W, _, rfl, rfl, .inl (.inl (.inl e1)), join_fits (n := 72) (k := 1) wo.1 (by omega) (by decide), ?_⟩
      rw [TL.join_eq]
      exact q _ e2
end
end L_k02

namespace L_k02
open PySem PySem.Spec PyProof.Rows L2 Lot
abbrev sHighAndWide : Stmt := topS 1
theorem scHighAndWide : FnScope ["board"] ["board"] (defScope sHighAndWide) := ⟨rfl, rfl, rfl, by decide +kernel, rfl, by decide +kernel, by decide +kernel⟩
abbrev sIsName : Stmt := topS 9
theorem scIsName : FnScope ["word", "sign"] ["word"] (defScope sIsName) := ⟨rfl, rfl, rfl, by decide +kernel, rfl, by decide +kernel, by decide +kernel⟩
abbrev sThingOf : Stmt := topS 11
theorem scThingOf : FnScope ["word"] ["word"] (defScope sThingOf) := ⟨rfl, rfl, rfl, by decide +kernel, rfl, by decide +kernel, by decide +kernel⟩
abbrev sIsDue : Stmt := topS 10
theorem scIsDue : FnScope ["word", "at", "wide", "name", "_"] ["word", "at", "wide"] (defScope sIsDue) := ⟨rfl, rfl, rfl, by decide +kernel, rfl, by decide +kernel, by decide +kernel⟩
section
variable {P : Program} {w : World} {K : PySem.W.Frag} {mg : Str → Option Value} {base : Heap}
def spHigh : Sp := fun vs H Q _ => ∃ (b : Addr) (bd : Bd), vs = [.ref b] ∧ H b = some (.tup bd.vals) ∧ ∀ t, H t = none → Q (.ref t) (upd H t (.tup [.int bd.high, .int bd.wide]))
theorem ok_high {f : Addr} {fd : FuncData} (F : Fun K "high_and_wide" "high_and_wide" sHighAndWide f fd) : FnOk P w K mg base CX0 1 f fd ["board"] spHigh := by
  refine F.ok scHighAndWide (fun vs H Q E h => ?_) (fun cdv A outer s H vs Q E hr h => ?_)
  · obtain ⟨b, bd, rfl, _⟩ := h
    rfl
  · obtain ⟨b, bd, rfl, hB', q⟩ := h
    have hB : SqT K H b bd.vals := .inl (.inl hB')
    refine ⟨_, (pss_cons (ps_if (pt_cmpR op_eq (pe_ix ix_tup (pv 0) pe_int (fun _ _ => rfl)) pe_str (nomark _)) (pss_one (ps_ret (pe_tup (pa_cons (pe_ix ix_tup (pv 0) pe_int (fun _ _ => rfl)) (pa_cons (pe_ix ix_tup (pv 0) pe_int (fun _ _ => rfl)) pa_nil))))) pss_nil)
      (pss_one (ps_ret (pe_tup (pa_cons pe_int (pa_cons (pe_ix ix_tup (pv 0) pe_int (fun _ _ => rfl)) pa_nil)))))), ?_⟩
    cases bd with
    | row n =>
      refine ⟨.ref b, rfl, b, _, 0, _, rfl, rfl, hB, atI_nat (j := 0) rfl, rfl, _, rfl, iteN (by decide +kernel) ?_⟩
      exact ⟨.ref b, rfl, b, _, 1, _, rfl, rfl, hB, atI_nat (j := 1) rfl, (by show 2 ≤ sizeLine; decide), fun t nt => q t nt⟩
    | ring n =>
      refine ⟨.ref b, rfl, b, _, 0, _, rfl, rfl, hB, atI_nat (j := 0) rfl, rfl, _, rfl, iteN (by decide +kernel) ?_⟩
      exact ⟨.ref b, rfl, b, _, 1, _, rfl, rfl, hB, atI_nat (j := 1) rfl, (by show 2 ≤ sizeLine; decide), fun t nt => q t nt⟩
    | floor h w =>
      refine ⟨.ref b, rfl, b, _, 0, _, rfl, rfl, hB, atI_nat (j := 0) rfl, rfl, _, rfl, iteP (by decide +kernel) ?_⟩
      exact ⟨.ref b, rfl, b, _, 1, _, rfl, rfl, hB, atI_nat (j := 1) rfl, .ref b, rfl, b, _, 2, _, rfl, rfl, hB, atI_nat (j := 2) rfl, (by show 2 ≤ sizeLine; decide), fun t nt => q t nt⟩
/-- is_name(word) -/
def spIsName : Sp := fun vs H Q _ => ∃ z : Str, vs = [.str z] ∧ z.length ≤ sizeLine ∧ ∀ H', Same H H' → Q (.bl (isName z)) H'
theorem ok_isName {f : Addr} {fd : FuncData} {t4 tl : Tok} (F : Fun K "is_name" "is_name" sIsName f fd) (m_len : mg "len" = none) (m_all : mg "all" = none) (g_MOST_LETTERS : mg "MOST_LETTERS" = some (.int 4 t4)) (g_LETTERS : mg "LETTERS" = some (.str abc tl)) :
    FnOk P w K mg base CX0 1 f fd ["word"] spIsName := by
  refine F.ok scIsName (fun vs H Q E h => ?_) (fun cdv A outer s H vs Q E hr h => ?_)
  · obtain ⟨z, rfl, _⟩ := h
    rfl
  · obtain ⟨z, rfl, hz, q⟩ := h
    refine ⟨_, (pss_cons (ps_if (pt_not (pt_chain op_le op_le pe_int (pe_callB call_len_str (by rfl) m_len PySem.boot_len (pa_cons (pv 0) pa_nil)) (pe_glob (v := .int 4) (by rfl) g_MOST_LETTERS ⟨_, rfl⟩))) (pss_one (ps_ret pe_bl)) pss_nil)
      (pss_one (ps_ret (pe_callB (cr_all rfl) (by rfl) m_all (by decide +kernel) (pa_cons (pe_lc (own := [("sign", 1)]) (g := gName 1) (tt := tYes) rfl scIsName.nd (pi_str (pv 0)) (blkOk_by (own := [("sign", 1)]) (N := ["word", "sign"]) (sc := defScope sIsName) (by decide +kernel)) (fun _ _ _ _ _ => (pg_name (i := 1) scIsName.nd rfl (by first | exact .inl rfl | exact .inr rfl))) (fun _ _ _ _ _ => pts_nil) (fun _ _ _ _ _ => by exact (pe_cmpR op_in_sign (pv 1) (pe_glob (v := .str abc) (by rfl) g_LETTERS ⟨_, rfl⟩) (by rfl)))) pa_nil))))), ?_⟩
    have no : ¬ (1 ≤ z.length ∧ z.length ≤ 4) → isName z = false := fun c => by
      unfold isName
      rw [Bool.and_eq_false_iff, Bool.and_eq_false_iff]
      by_cases c1 : 1 ≤ z.length
      · exact .inl (.inr (decide_eq_false fun c2 => c ⟨c1, c2⟩))
      · exact .inl (.inl (decide_eq_false c1))
    refine ⟨.str z, rfl, z, rfl, hz, 1, z.length, rfl, rfl, _, rfl, ite2 (fun e => ?_) (fun e => ?_)⟩
    · have h1 : 1 ≤ z.length := by have := of_decide_eq_true e; omega
      refine ⟨z.length, 4, rfl, rfl, _, rfl, ?_⟩
      by_cases c2 : z.length ≤ 4
      · refine iteN (by rw [decide_eq_true (show (z.length : Int) ≤ 4 by omega)]; rfl) ?_
        refine ⟨.str z, rfl, z, rfl, fun D nD => ?_⟩
        refine lc_it walk_str (fun i H' => H' D = some (.lst (((z.cps.toList.take i).map fun c => decide (c ∈ abc.cps.toList)).map V.bl)) ∧ Same H H') ⟨upd_same, same_upd nD⟩ (fun _ _ _ _ => trivial) (fun i x H1 H2 hi hI hY => ?_) (fun H' hI => ?_)
        · obtain ⟨e1, e2⟩ := hI
          obtain ⟨rfl, c, hc, rfl⟩ := hY
          have hc' : z.cps.toList[i]? = some c := by rw [Array.getElem?_toList]; exact hc
          refine ⟨rfl, .str ⟨#[c]⟩, rfl, c, abc, rfl, rfl, _, e1, ?_, ?_, same_new e2 nD⟩
          · rw [List.length_map, List.length_map, List.length_take]
            have : z.cps.toList.length = z.length := by simp [Str.length]
            exact small1000 (by omega)
          · rw [upd_same, List.take_add_one, hc', List.map_append, List.map_append]
            rfl
        · obtain ⟨e1, e2⟩ := hI
          have ea : z.cps.toList.take z.cps.size = z.cps.toList := List.take_of_length_le (by rw [Array.length_toList]; exact Nat.le_refl _)
          rw [ea] at e1
          refine ⟨D, _, rfl, .inl (.inl e1), ?_⟩
          have eq : isName z = ((z.cps.toList.map fun c => decide (c ∈ abc.cps.toList)).all id) := by
            unfold isName
            rw [decide_eq_true h1, decide_eq_true c2, List.all_map]
            rfl
          rw [← eq]
          exact q _ e2
      · refine iteP (by rw [decide_eq_false (show ¬ (z.length : Int) ≤ 4 by omega)]; rfl) ?_
        have := q H (Same.refl H)
        rw [no fun c => c2 c.2] at this
        exact this
    · refine ⟨false, rfl, iteP rfl ?_⟩
      have := q H (Same.refl H)
      rw [no fun c => e (decide_eq_true (by omega))] at this
      exact this
/-- _thing_of(word) -/
def spThingOf : Sp := fun vs H Q _ => ∃ z : Str, vs = [.str z] ∧ z.length ≤ sizeLine ∧ ∀ t, H t = none → Q (.ref t) (upd H t (.tup (thing (thingOf z))))
theorem ok_thingOf {f : Addr} {fd : FuncData} (F : Fun K "_thing_of" "_thing_of" sThingOf f fd) : FnOk P w K mg base CX0 1 f fd ["word"] spThingOf := by
  refine F.ok scThingOf (fun vs H Q E h => ?_) (fun cdv A outer s H vs Q E hr h => ?_)
  · obtain ⟨z, rfl, _⟩ := h
    rfl
  · obtain ⟨z, rfl, hz, q⟩ := h
    refine ⟨_, (pss_cons (ps_if (pt_val (pe_m1 PySem.F.slot_str_startswith PySem.F.type_str_startswith mt_startswith (pv 0) pe_str)) (pss_one (ps_ret (pe_tup (pa_cons (pe_slice sl_str (pv 0) (po_some pe_int) po_none) (pa_cons pe_int pa_nil))))) pss_nil)
      (pss_one (ps_ret (pe_tup (pa_cons (pv 0) (pa_cons pe_int pa_nil)))))), ?_⟩
    refine ⟨.str z, rfl, ⟨_, rfl⟩, z, minus, rfl, rfl, _, rfl, ?_⟩
    unfold thingOf at q
    by_cases c : Txt.startswith z minus = true
    · rw [if_pos c] at q
      refine iteP c ⟨.str z, rfl, 1, rfl, z, rfl, hz, (by show 2 ≤ sizeLine; decide), fun t nt => q t nt⟩
    · rw [if_neg c] at q
      refine iteN (by simpa using c) ⟨.str z, rfl, (by show 2 ≤ sizeLine; decide), fun t nt => q t nt⟩
/-- _is_due(word, at, wide) -/
def spIsDue : Sp := fun vs H Q _ => ∃ (z : Str) (i wide : Nat), vs = [.str z, .int i, .int wide] ∧ z.length ≤ sizeLine ∧ ∀ H', Same H H' → Q (.bl (isDue z i wide)) H'
theorem thing_len (z : Str) : (thingOf z).1.length ≤ z.length := by
  unfold thingOf
  split
  · rw [cut_one]
    have : z.length = z.cps.toList.length := by simp [Str.length]
    rw [this]
    show (z.cps.toList.drop 1).toArray.size ≤ _
    rw [List.size_toArray, List.length_drop]
    omega
  · exact Nat.le_refl _
theorem ok_isDue {f fT fN : Addr} {fd fdT fdN : FuncData} (F : Fun K "_is_due" "_is_due" sIsDue f fd) (D__thing_of : Def P w K mg base 1 "_thing_of" ["word"] spThingOf fT fdT) (D_is_name : Def P w K mg base 1 "is_name" ["word"] spIsName fN fdN) :
    FnOk P w K mg base CX0 2 f fd ["word", "at", "wide"] spIsDue := by
  refine F.ok scIsDue (fun vs H Q E h => ?_) (fun cdv A outer s H vs Q E hr h => ?_)
  · obtain ⟨z, i, wide, rfl, _⟩ := h
    rfl
  · obtain ⟨z, i, wide, rfl, hz, q⟩ := h
    refine ⟨_, (pss_cons (ps_if (pt_cmpR op_eq (pe_op op_mod (pv 1) (pe_op op_add (pv 2) pe_int)) (pv 2) (nomark _)) (pss_one (ps_ret (pe_cmpR op_eq (pv 0) pe_str (nomark _)))) pss_nil)
      (pss_cons (ps_asg (pe_call D__thing_of.ok (hr.mono (by decide)) (by rfl) D__thing_of.g D__thing_of.kp D__thing_of.b .nil pass0 (pa_cons (pv 0) pa_nil)) (pg_tup (by rfl) (pgs_cons (pg_name (i := 3) scIsDue.nd rfl (by first | exact .inl rfl | exact .inr rfl)) (pgs_cons (pg_name (i := 4) scIsDue.nd rfl (by first | exact .inl rfl | exact .inr rfl)) pgs_nil))))
      (pss_one (ps_ret (pe_call D_is_name.ok (hr.mono (by decide)) (by rfl) D_is_name.g D_is_name.kp D_is_name.b .nil pass0 (pa_cons (pv 3) pa_nil)))))), ?_⟩
    have em : (i : Int) % ((wide : Int) + 1) = ((i % (wide + 1) : Nat) : Int) := by rw [Int.natCast_emod]; rfl
    refine ⟨.int i, rfl, .int wide, rfl, wide, 1, rfl, rfl, i, _, rfl, rfl, by show (0 : Int) < (wide : Int) + 1; omega, .int wide, rfl, rfl, _, rfl, ?_⟩
    unfold isDue at q
    by_cases c : i % (wide + 1) = wide
    · rw [if_pos c] at q
      refine iteP (decide_eq_true ?_) ?_
      · show V.int ((i : Int) % ((wide : Int) + 1)) = V.int wide
        rw [em, c]
      · have := q H (Same.refl H)
        refine ⟨.str z, rfl, rfl, ?_⟩
        have e : decide (V.str z = V.str slash) = decide (z = slash) := by
          by_cases h : z = slash
          · rw [h]; rfl
          · rw [decide_eq_false h, decide_eq_false fun x => h (V.str.inj x)]
        rw [← e] at this
        exact this
    · rw [if_neg c] at q
      refine iteN (decide_eq_false fun x => c ?_) ?_
      · have x' : V.int ((i : Int) % ((wide : Int) + 1)) = V.int wide := x
        rw [em] at x'
        have := V.int.inj x'
        omega
      · refine ⟨.str z, rfl, z, rfl, hz, fun t nt => ?_⟩
        refine ⟨t, thing (thingOf z), rfl, .inl (.inl upd_same), rfl, .str (thingOf z).1, [.int (thingOf z).2], rfl, .int (thingOf z).2, [], rfl, rfl, ?_⟩
        refine ⟨.str (thingOf z).1, rfl, _, rfl, Nat.le_trans (thing_len z) hz, fun H' s => q H' ((same_upd nt).trans s)⟩
end
end L_k02

namespace L_k02
open PySem PySem.Spec PyProof.Rows L2 Lot
abbrev sReadStanding : Stmt := topS 8
theorem scReadStanding : FnScope ["board", "text", "high", "wide", "words_due", "words", "at", "word"] ["board", "text"] (defScope sReadStanding) := ⟨rfl, rfl, rfl, by decide +kernel, rfl, by decide +kernel, by decide +kernel⟩
section
variable {P : Program} {w : World} {K : PySem.W.Frag} {mg : Str → Option Value} {base : Heap}
/-- the text of a standing is read to it -/
def spReadOk : Sp := fun vs H Q _ => ∃ (b : Addr) (bd : Bd) (ths : List (Str × Nat)), vs = [.ref b, .str (textOf bd ths)] ∧ H b = some (.tup bd.vals) ∧ bd.Ok 36 ∧ ths.length = bd.cells ∧ (∀ th ∈ ths, ThOk th) ∧
  ∀ H' t, Same H H' → H t = none → StandAt H' t ths → Q (.ref t) H'
theorem high_le {bd : Bd} (ok : bd.Ok 36) : bd.high ≤ 36 ∧ bd.wide ≤ 36 := by
  cases bd with
  | row n => exact ⟨by show 1 ≤ 36; decide, ok.2⟩
  | ring n => exact ⟨by show 1 ≤ 36; decide, ok.2⟩
  | floor h w =>
    obtain ⟨o1, o2, o3⟩ := ok
    exact ⟨Nat.le_trans (Nat.le_mul_of_pos_right h o2) o3, Nat.le_trans (Nat.le_mul_of_pos_left w o1) o3⟩
theorem ok_readOk {f fH fT fD : Addr} {fd fdH fdT fdD : FuncData} (F : Fun K "read_standing" "read_standing" sReadStanding f fd) (D_high_and_wide : Def P w K mg base 1 "high_and_wide" ["board"] spHigh fH fdH)
    (D__thing_of : Def P w K mg base 1 "_thing_of" ["word"] spThingOf fT fdT) (D__is_due : Def P w K mg base 2 "_is_due" ["word", "at", "wide"] spIsDue fD fdD) (m_enumerate : mg "enumerate" = none) (m_len : mg "len" = none) (m_tuple : mg "tuple" = none) :
    FnOk P w K mg base CX0 3 f fd ["board", "text"] spReadOk := by
  refine F.ok scReadStanding (fun vs H Q E h => ?_) (fun cdv A outer s H vs Q E hr h => ?_)
  · obtain ⟨b, bd, ths, rfl, _⟩ := h
    rfl
  · obtain ⟨b, bd, ths, rfl, hB, ok, hlen, hok, q⟩ := h
    have hw := high_le ok
    have hc := Bd.cells_le ok
    obtain ⟨wd1, wd2, wd3⟩ := words_due ok hlen hok
    have hne : ths ≠ [] := fun e => by rw [e] at hlen; have : 0 = bd.cells := hlen; omega
    have hsplit := text_split (bd := bd) hne hok
    have wok := words_ok bd ths 0 hok
    have htl : (textOf bd ths).length ≤ 72 * 5 + 72 * 1 := join_le wok.1 (by omega) (by decide)
    have hsz : 1000 ≤ sizeLine := by decide
    generalize textOf bd ths = text at *
    generalize hws : wordsFrom bd 0 ths = ws at *
    refine ⟨_, (pss_cons (ps_asg (pe_call D_high_and_wide.ok (hr.mono (by decide)) (by rfl) D_high_and_wide.g D_high_and_wide.kp D_high_and_wide.b .nil pass0 (pa_cons (pv 0) pa_nil)) (pg_tup (by rfl) (pgs_cons (pg_name (i := 2) scReadStanding.nd rfl (by first | exact .inl rfl | exact .inr rfl)) (pgs_cons (pg_name (i := 3) scReadStanding.nd rfl (by first | exact .inl rfl | exact .inr rfl)) pgs_nil))))
      (pss_cons (ps_set (i := 4) scReadStanding.nd rfl (by first | exact .inl rfl | exact .inr rfl) (pe_op op_sub (pe_op op_mul (pv 2) (pe_op op_add (pv 3) pe_int)) pe_int))
      (pss_cons (ps_set (i := 5) scReadStanding.nd rfl (by first | exact .inl rfl | exact .inr rfl) (pe_split (pv 1) pe_str))
      (pss_cons (ps_for PassesOwn.never rfl (pi_enum (by rfl) m_enumerate (pa_cons (pv 5) pa_nil)) (pg_tup (by rfl) (pgs_cons (pg_name (i := 6) scReadStanding.nd rfl (by first | exact .inl rfl | exact .inr rfl)) (pgs_cons (pg_name (i := 7) scReadStanding.nd rfl (by first | exact .inl rfl | exact .inr rfl)) pgs_nil))) (pss_one (ps_if (PW.pt (pw_or (pt_cmpR op_ge (pv 6) (pv 4) (nomark _)) (pw_or1 (pt_not (pt_val (pe_call D__is_due.ok (hr.mono (by decide)) (by rfl) D__is_due.g D__is_due.kp D__is_due.b .nil pass0 (pa_cons (pv 7) (pa_cons (pv 6) (pa_cons (pv 3) pa_nil))))))))) (pss_one ps_never) pss_nil)))
      (pss_cons (ps_if (pt_cmpR op_lt (pe_callB call_len_seq (by rfl) m_len PySem.boot_len (pa_cons (pv 5) pa_nil)) (pv 4) (nomark _)) (pss_one ps_never) pss_nil)
      (pss_one (ps_ret (pe_callTy call_tuple_of (by rfl) m_tuple (by decide +kernel) (pa_cons (pe_lc (own := [("word", 7)]) (g := gName 7) rfl scReadStanding.nd (pi_list (pv 5)) (blkOk_by (own := [("word", 7)]) (N := ["board", "text", "high", "wide", "words_due", "words", "at", "word"]) (sc := defScope sReadStanding) (by decide +kernel)) (fun _ _ _ _ _ => (pg_name (i := 7) scReadStanding.nd rfl (by first | exact .inl rfl | exact .inr rfl))) (fun _ _ _ _ _ => pts_one (by exact (pt_cmpR op_ne (pv 7) pe_str (nomark _)))) (fun _ _ _ _ _ => by exact (pe_call D__thing_of.ok (hr.mono (by decide)) (by rfl) D__thing_of.g D__thing_of.kp D__thing_of.b .nil pass0 (pa_cons (pv 7) pa_nil)))) pa_nil))))))))), ?_⟩
    refine ⟨.ref b, rfl, b, bd, rfl, hB, fun u nu => ?_⟩
    refine ⟨u, [.int bd.high, .int bd.wide], rfl, .inl (.inl upd_same), rfl, .int bd.high, [.int bd.wide], rfl, .int bd.wide, [], rfl, rfl, ?_⟩
    have S1 := same_upd (o := .tup [.int bd.high, .int bd.wide]) nu
    generalize (upd H u (.tup [.int bd.high, .int bd.wide])) = H1 at *
    refine ⟨.int bd.high, rfl, .int bd.wide, rfl, bd.wide, 1, rfl, rfl, bd.high, _, rfl, rfl, .inl ⟨by omega, by omega⟩, _, 1, rfl, rfl, ?_⟩
    have edue : (bd.high : Int) * ((bd.wide : Int) + 1) - 1 = (ws.length : Int) := by
      have : ((ws.length + 1 : Nat) : Int) = ((bd.high * (bd.wide + 1) : Nat) : Int) := by rw [wd2]
      rw [Int.natCast_mul] at this
      have e2 : ((bd.wide + 1 : Nat) : Int) = (bd.wide : Int) + 1 := rfl
      rw [e2] at this
      omega
    refine ⟨.str text, rfl, ⟨_, rfl⟩, text, Str.ofString " ", rfl, rfl, by decide +kernel, by omega, fun W nW => ?_⟩
    rw [hsplit]
    have S2 := S1.trans (same_upd (o := .lst (ws.map V.str)) nW)
    have eW : (upd H1 W (.lst (ws.map V.str))) W = some (.lst (ws.map V.str)) := upd_same
    generalize (upd H1 W (.lst (ws.map V.str))) = H2 at *
    have wsl : ∀ z ∈ ws, z.length ≤ sizeLine := fun z hz => by have := wok.1 z hz; omega
    refine ⟨.ref W, rfl, W, _, rfl, .inl (.inl eW), ?_⟩
    refine for_it (walk_enum (xs := ws.map V.str)) (fun i σ H' => ∃ y6 y7, σ = [some (.ref b), some (.str text), some (.int bd.high), some (.int bd.wide), some (.int ((bd.high : Int) * ((bd.wide : Int) + 1) - 1)), some (.ref W), y6, y7] ∧ Same H2 H') ⟨none, none, rfl, Same.refl _⟩ (fun i σ H' hi hI => ?_) (fun i x σ H' H'' hi hI hY => ?_) (fun σ H' hI => ?_)
    · obtain ⟨y6, y7, _, s⟩ := hI
      exact .inl (.inl (s _ _ eW))
    · obtain ⟨y6, y7, rfl, s⟩ := hI
      obtain ⟨T, a1, a2, rfl, nT, rfl, g1, g2⟩ := hY
      obtain rfl : a1 = .int (i : Nat) := (Option.some.inj g1).symm
      rw [List.length_map] at hi
      obtain ⟨z, hz⟩ : ∃ z, ws[i]? = some z := ⟨_, List.getElem?_eq_getElem hi⟩
      obtain rfl : a2 = .str z := by
        have g2' : (ws.map V.str)[i]? = some a2 := g2
        rw [List.getElem?_map, hz] at g2'
        replace g2 := g2'
        exact (Option.some.inj g2).symm
      refine ⟨T, [.int (i : Nat), .str z], rfl, .inl (.inl upd_same), rfl, .int (i : Nat), [.str z], rfl, .str z, [], rfl, rfl, ?_⟩
      refine ⟨.int (i : Nat), rfl, .int _, rfl, i, _, rfl, rfl, _, rfl, iteN (decide_eq_false (by rw [edue]; omega)) ?_⟩
      refine ⟨.str z, rfl, .int (i : Nat), rfl, .int bd.wide, rfl, z, i, bd.wide, rfl, wsl z (List.mem_of_getElem? hz), fun H3 s3 => ?_⟩
      refine ⟨true, by rw [wd1 i z hz], iteF ?_⟩
      exact ⟨_, _, rfl, (s.trans (same_upd nT)).trans s3⟩
    · obtain ⟨y6, y7, rfl, s⟩ := hI
      have eW' := s _ _ eW
      refine ⟨.ref W, rfl, W, _, rfl, .inl (.inl (.inl eW')), .int _, rfl, _, _, rfl, rfl, _, rfl, iteN (decide_eq_false (by rw [edue, List.length_map]; omega)) ?_⟩
      refine ⟨.ref W, rfl, W, rfl, ⟨_, .inl (.inl eW')⟩, fun D nD => ?_⟩
      refine lc_list (K := K) (a := W) (xs := ws.map V.str) (fun i H3 => ∃ as : List Addr, H3 D = some (.lst (as.map V.ref)) ∧ Things H3 as (((ws.take i).filter fun z => !decide (z = slash)).map thingOf) ∧ Same H' H3) ⟨[], upd_same, trivial, same_upd nD⟩ (fun i H3 hi hI => ?_) (fun i y H3 hy hI => ?_) (fun H3 hI => ?_)
      · obtain ⟨as, e1, e2, e3⟩ := hI
        exact .inl (.inl (e3 _ _ eW'))
      · obtain ⟨as, e1, e2, e3⟩ := hI
        obtain ⟨z, hz, rfl⟩ : ∃ z, ws[i]? = some z ∧ y = V.str z := by
          rw [List.getElem?_map] at hy
          cases e : ws[i]? with
          | none => rw [e] at hy; cases hy
          | some z => rw [e] at hy; exact ⟨z, rfl, (Option.some.inj hy).symm⟩
        have hzl := wsl z (List.mem_of_getElem? hz)
        have hil := (List.getElem?_eq_some_iff.mp hz).1
        refine ⟨rfl, .str z, rfl, rfl, _, rfl, ?_⟩
        by_cases c : z = slash
        · refine iteN (by rw [c]; decide +kernel) ⟨as, e1, ?_, e3⟩
          rw [List.take_add_one, hz, List.filter_append, show (some z).toList = [z] from rfl, List.filter_cons_of_neg (by rw [decide_eq_true c]; decide), List.filter_nil, List.append_nil]
          exact e2
        · have c' : (!decide (V.str z = V.str (Str.ofString "/"))) = true := by
            rw [decide_eq_false fun x => c (V.str.inj x)]; rfl
          refine iteP c' ?_
          refine ⟨.str z, rfl, z, rfl, hzl, fun t nt => ?_⟩
          have Dt : D ≠ t := fun x => by rw [← x, e1] at nt; cases nt
          have e1b : (upd H3 t (.tup (thing (thingOf z)))) D = some (.lst (as.map V.ref)) := by rw [upd_ne Dt]; exact e1
          have e2b : Things (upd H3 t (.tup (thing (thingOf z)))) (as ++ [t]) (((ws.take i).filter fun z => !decide (z = slash)).map thingOf ++ [thingOf z]) := Things.snoc upd_same (e2.same (same_upd nt))
          have hal := e2.length
          have hle : (((ws.take i).filter fun z => !decide (z = slash)).map thingOf).length ≤ i := by
            rw [List.length_map]
            refine Nat.le_trans (List.length_filter_le _ _) ?_
            rw [List.length_take]
            exact Nat.min_le_left _ _
          refine ⟨as.map V.ref, e1b, ?_, as ++ [t], ?_, ?_, same_new (e3.trans (same_upd nt)) nD⟩
          · rw [List.length_map]
            exact small1000 (by omega)
          · rw [upd_same, List.map_append]; rfl
          · rw [List.take_add_one, hz, List.filter_append, show (some z).toList = [z] from rfl, List.filter_cons_of_pos (by rw [decide_eq_false c]; rfl), List.filter_nil, List.map_append]
            exact e2b.but But.upd ⟨_, e1b⟩
      · obtain ⟨as, e1, e2, e3⟩ := hI
        rw [List.length_map, List.take_length, wd3] at e2
        refine ⟨D, _, rfl, .inl ⟨.inl (.inl e1), fun t nt => ?_⟩⟩
        have S3 := (S2.trans s).trans e3
        exact q _ t (S3.trans (same_upd nt)) (S3.free nt) ⟨as, upd_same, e2.same (same_upd nt)⟩
end
end L_k02

namespace L_k02
open PySem PySem.Spec PyProof.Rows L2 Lot
abbrev sLaw : Stmt := topS 22
theorem scLaw : FnScope ["script", "at", "pot", "board", "standing", "text", "turn"] ["script"] (defScope sLaw) := ⟨rfl, rfl, rfl, by decide +kernel, rfl, by decide +kernel, by decide +kernel⟩
section
variable {P : Program} {w : World} {K : PySem.W.Frag} {mg : Str → Option Value} {base : Heap}
def spLaw (K : PySem.W.Frag) : Sp := fun vs H Q _ => ∃ (a : Addr) (ns : List Int), vs = [.ref a] ∧ SqL K H a (ns.map V.int) ∧ ns.length ≤ 63 ∧ ∀ H', Q (.bl true) H'
theorem ok_law {fpot fboard fcells fstanding ftext fread f : Addr} {dpot dboard dcells dstanding dtext dread fd : FuncData} (F : Fun K "law" "law" sLaw f fd)
    (D__law_pot : Def P w K mg base 1 "_law_pot" ["script", "at"] (spPot K) fpot dpot) (D__law_board : Def P w K mg base 2 "_law_board" ["pot", "most"] spBoard fboard dboard)
    (D__law_cells : Def P w K mg base 1 "_law_cells" ["board"] (spCells K) fcells dcells) (D__law_standing : Def P w K mg base 3 "_law_standing" ["pot", "many"] spStanding fstanding dstanding)
    (D__law_text : Def P w K mg base 1 "_law_text" ["board", "standing"] (spText K) ftext dtext) (D_read_standing : Def P w K mg base 3 "read_standing" ["board", "text"] spReadOk fread dread)
    (m_range : mg "range" = none) (m_max : mg "max" = none) (m_min : mg "min" = none) (m_len : mg "len" = none) (m_repr : mg "repr" = none) :
    GRun P w K mg base CX0 4 f fd ["script"] (spLaw K) := by
  refine g_ok F scLaw (fun vs H Q E h => ?_) (fun cdv A outer s H vs Q E hG hr h => ?_)
  · obtain ⟨a, ns, rfl, _⟩ := h
    rfl
  · obtain ⟨a, ns, rfl, hS, hl, q⟩ := h
    refine ⟨_, (pss_cons (ps_for PassesOwn.never rfl (pi_range1 (by rfl) m_range (pa_cons (pe_callB (call_max2 rfl) (by rfl) m_max (by decide +kernel) (pa_cons pe_int (pa_cons (pe_callB (call_min2 rfl) (by rfl) m_min (by decide +kernel) (pa_cons pe_int (pa_cons (pe_callB call_len_seq (by rfl) m_len PySem.boot_len (pa_cons (pv 0) pa_nil)) pa_nil))) pa_nil))) pa_nil)) (pg_name (i := 1) scLaw.nd rfl (by first | exact .inl rfl | exact .inr rfl)) (pss_cons (ps_set (i := 2) scLaw.nd rfl (by first | exact .inl rfl | exact .inr rfl) (pe_call D__law_pot.ok (hr.mono (by decide)) (by rfl) D__law_pot.g D__law_pot.kp D__law_pot.b .nil pass0 (pa_cons (pv 0) (pa_cons (pv 1) pa_nil))))
      (pss_cons (ps_set (i := 3) scLaw.nd rfl (by first | exact .inl rfl | exact .inr rfl) (pe_call D__law_board.ok (hr.mono (by decide)) (by rfl) D__law_board.g D__law_board.kp D__law_board.b .nil pass0 (pa_cons (pv 2) (pa_cons pe_int pa_nil))))
      (pss_cons (ps_set (i := 4) scLaw.nd rfl (by first | exact .inl rfl | exact .inr rfl) (pe_call D__law_standing.ok (hr.mono (by decide)) (by rfl) D__law_standing.g D__law_standing.kp D__law_standing.b .nil pass0 (pa_cons (pv 2) (pa_cons (pe_call D__law_cells.ok (hr.mono (by decide)) (by rfl) D__law_cells.g D__law_cells.kp D__law_cells.b .nil pass0 (pa_cons (pv 3) pa_nil)) pa_nil))))
      (pss_cons (ps_set (i := 5) scLaw.nd rfl (by first | exact .inl rfl | exact .inr rfl) (pe_call D__law_text.ok (hr.mono (by decide)) (by rfl) D__law_text.g D__law_text.kp D__law_text.b .nil pass0 (pa_cons (pv 3) (pa_cons (pv 4) pa_nil))))
      (pss_one (ps_for PassesOwn.never rfl (pi_range1 (by rfl) m_range (pa_cons pe_int pa_nil)) (pg_name (i := 6) scLaw.nd rfl (by first | exact .inl rfl | exact .inr rfl)) (pss_one (ps_if (pt_cmpR op_ne (pe_callB (call_reprD hG hr) (by rfl) m_repr (by decide +kernel) (pa_cons (pe_call D_read_standing.ok (hr.mono (by decide)) (by rfl) D_read_standing.g D_read_standing.kp D_read_standing.b .nil pass0 (pa_cons (pv 3) (pa_cons (pv 5) pa_nil))) pa_nil)) (pe_callB (call_reprD hG hr) (by rfl) m_repr (by decide +kernel) (pa_cons (pv 4) pa_nil)) (nomark _)) (pss_one (ps_ret pe_bl)) pss_nil)))))))))
      (pss_one (ps_ret pe_bl))), ?_⟩
    refine ⟨.ref a, rfl, a, _, rfl, .inl hS, 5, _, rfl, 1, _, rfl, _, rfl, by split <;> omega, by split <;> split <;> omega, ?_⟩
    generalize hn : (if (if ((ns.map V.int).length : Int) < 5 then ((ns.map V.int).length : Int) else 5) > 1 then (if ((ns.map V.int).length : Int) < 5 then ((ns.map V.int).length : Int) else 5) else 1) = n
    have n5 : n ≤ 5 := by
      rw [← hn]
      split <;> split <;> omega
    refine for_range (lo := 0) (n := n.toNat) (fun i σ H' => ∃ y1 y2 y3 y4 y5 y6, σ = [some (.ref a), y1, y2, y3, y4, y5, y6] ∧ Same H H') ⟨none, none, none, none, none, none, rfl, Same.refl H⟩ (fun i σ H' hi hI => ?_) (fun σ H' hI => ?_)
    · obtain ⟨y1, y2, y3, y4, y5, y6, rfl, S0⟩ := hI
      refine ⟨.ref a, rfl, .int (0 + (i : Int)), rfl, a, ns, i, by rw [Int.zero_add]; rfl, S0.seq hS, by omega, fun p ws np hw => ?_⟩
      have P1 : PotAt (upd H' p (.lst ws)) p 0 := PotAt.upd hw
      have Hp0 : H p = none := S0.free np
      have S1 := S0.trans (same_upd (o := .lst ws) np)
      generalize (upd H' p (.lst ws)) = H1 at *
      refine ⟨.ref p, rfl, p, 36, 0, rfl, by decide, by decide, P1, by decide, fun H2 b bd B2 P2 nb eb ok => ?_⟩
      have S2 := same_but S1 Hp0 B2
      have hc := Bd.cells_le ok
      refine ⟨.ref p, rfl, .ref b, rfl, b, bd, rfl, .inl (.inl eb), ok, p, bd.cells, 4, rfl, hc.1, hc.2, P2, by decide, fun H3 t ths B3 P3 nt hst hlen hok => ?_⟩
      have S3 := same_but S2 Hp0 B3
      have bp : b ≠ p := fun z => by
        obtain ⟨vs, e⟩ := P2.is
        rw [z, e] at eb
        cases eb
      have eb3 := B3 _ _ bp eb
      refine ⟨.ref b, rfl, .ref t, rfl, b, t, bd, ths, rfl, eb3, ok, hst, by omega, hok, fun H4 S4 => ?_⟩
      obtain ⟨k1, k2, k3, k4⟩ := dStand_ok hok (by omega)
      -- twice
      refine ⟨2, rfl, by decide, by decide, ?_⟩
      refine for_range (lo := 0) (n := 2) (fun j σ H5 => ∃ y6, σ = [some (.ref a), some (.int (0 + (i : Int))), some (.ref p), some (.ref b), some (.ref t), some (.str (textOf bd ths)), y6] ∧ Same H4 H5) ⟨y6, rfl, Same.refl H4⟩ (fun j σ H5 hj hJ => ?_) (fun σ H5 hJ => ?_)
      · obtain ⟨z6, rfl, S5⟩ := hJ
        have eb5 := S5 _ _ (S4 _ _ eb3)
        refine ⟨.ref b, rfl, .str (textOf bd ths), rfl, b, bd, ths, rfl, eb5, ok, hlen, hok, fun H6 u S6 nu hu => ?_⟩
        refine ⟨u, dStand ths, rfl, hu.data, k1, k2, k3, k4, ?_⟩
        refine ⟨.ref t, rfl, t, dStand ths, rfl, (((hst.same S4).same S5).same S6).data, k1, k2, k3, k4, rfl, _, rfl, iteNS rfl ?_⟩
        exact ⟨_, rfl, S5.trans S6⟩
      · obtain ⟨z6, rfl, S5⟩ := hJ
        exact ⟨_, _, _, _, _, _, rfl, (S3.trans S4).trans S5⟩
    · exact q _
end
theorem all_mk {l : PySem.W.OpenLaw} {w : World} {K : PySem.W.Frag} {h : Heap} {mg : Str → Option Value} {fa f_highandwide f_readstanding f_isname f_isdue f_thingof f_lawpot f_lawdip f_lawboard f_lawcells f_lawname f_lawnames f_lawmixed f_lawstanding f_lawtext f_law : Addr} (X : K.In h) (G : h.Ns mainGlobals mg) (hfa : mg "law" = some (.ref fa))
    {od_highandwide an_highandwide od_readstanding an_readstanding od_isname an_isname od_isdue an_isdue od_thingof an_thingof od_lawpot an_lawpot od_lawdip an_lawdip od_lawboard an_lawboard od_lawcells an_lawcells od_lawname an_lawname od_lawnames an_lawnames od_lawmixed an_lawmixed od_lawstanding an_lawstanding od_lawtext an_lawtext od_law an_law : Option Addr} {sl_highandwide sl_readstanding sl_isname sl_isdue sl_thingof sl_lawpot sl_lawdip sl_lawboard sl_lawcells sl_lawname sl_lawnames sl_lawmixed sl_lawstanding sl_lawtext sl_law : Array (Option Value)} {oc_highandwide kV_highandwide dc_highandwide pm_highandwide cd_highandwide ct_highandwide oc_readstanding kV_readstanding dc_readstanding pm_readstanding cd_readstanding ct_readstanding oc_isname kV_isname dc_isname pm_isname cd_isname ct_isname oc_isdue kV_isdue dc_isdue pm_isdue cd_isdue ct_isdue oc_thingof kV_thingof dc_thingof pm_thingof cd_thingof ct_thingof oc_lawpot kV_lawpot dc_lawpot pm_lawpot cd_lawpot ct_lawpot oc_lawdip kV_lawdip dc_lawdip pm_lawdip cd_lawdip ct_lawdip oc_lawboard kV_lawboard dc_lawboard pm_lawboard cd_lawboard ct_lawboard oc_lawcells kV_lawcells dc_lawcells pm_lawcells cd_lawcells ct_lawcells oc_lawname kV_lawname dc_lawname pm_lawname cd_lawname ct_lawname oc_lawnames kV_lawnames dc_lawnames pm_lawnames cd_lawnames ct_lawnames oc_lawmixed kV_lawmixed dc_lawmixed pm_lawmixed cd_lawmixed ct_lawmixed oc_lawstanding kV_lawstanding dc_lawstanding pm_lawstanding cd_lawstanding ct_lawstanding oc_lawtext kV_lawtext dc_lawtext pm_lawtext cd_lawtext ct_lawtext oc_law kV_law dc_law pm_law cd_law ct_law : Value}
    (a_highandwide : PySem.W.nsIn K mainGlobals "high_and_wide" = some (some (.ref f_highandwide))) (l_highandwide : K.lookup f_highandwide = some ⟨oc_highandwide, od_highandwide, .func (PySem.W.fnOf "high_and_wide" "high_and_wide" (defArgs sHighAndWide) (defBody sHighAndWide) (defScope sHighAndWide) .none kV_highandwide dc_highandwide pm_highandwide an_highandwide cd_highandwide ct_highandwide), sl_highandwide⟩) (c_highandwide : PySem.W.codeIn K cd_highandwide "high_and_wide" = true) (k_highandwide : PySem.W.keepIn K (.ref f_highandwide) = true)
    (a_readstanding : PySem.W.nsIn K mainGlobals "read_standing" = some (some (.ref f_readstanding))) (l_readstanding : K.lookup f_readstanding = some ⟨oc_readstanding, od_readstanding, .func (PySem.W.fnOf "read_standing" "read_standing" (defArgs sReadStanding) (defBody sReadStanding) (defScope sReadStanding) .none kV_readstanding dc_readstanding pm_readstanding an_readstanding cd_readstanding ct_readstanding), sl_readstanding⟩) (c_readstanding : PySem.W.codeIn K cd_readstanding "read_standing" = true) (k_readstanding : PySem.W.keepIn K (.ref f_readstanding) = true)
    (a_isname : PySem.W.nsIn K mainGlobals "is_name" = some (some (.ref f_isname))) (l_isname : K.lookup f_isname = some ⟨oc_isname, od_isname, .func (PySem.W.fnOf "is_name" "is_name" (defArgs sIsName) (defBody sIsName) (defScope sIsName) .none kV_isname dc_isname pm_isname an_isname cd_isname ct_isname), sl_isname⟩) (c_isname : PySem.W.codeIn K cd_isname "is_name" = true) (k_isname : PySem.W.keepIn K (.ref f_isname) = true)
    (a_isdue : PySem.W.nsIn K mainGlobals "_is_due" = some (some (.ref f_isdue))) (l_isdue : K.lookup f_isdue = some ⟨oc_isdue, od_isdue, .func (PySem.W.fnOf "_is_due" "_is_due" (defArgs sIsDue) (defBody sIsDue) (defScope sIsDue) .none kV_isdue dc_isdue pm_isdue an_isdue cd_isdue ct_isdue), sl_isdue⟩) (c_isdue : PySem.W.codeIn K cd_isdue "_is_due" = true) (k_isdue : PySem.W.keepIn K (.ref f_isdue) = true)
    (a_thingof : PySem.W.nsIn K mainGlobals "_thing_of" = some (some (.ref f_thingof))) (l_thingof : K.lookup f_thingof = some ⟨oc_thingof, od_thingof, .func (PySem.W.fnOf "_thing_of" "_thing_of" (defArgs sThingOf) (defBody sThingOf) (defScope sThingOf) .none kV_thingof dc_thingof pm_thingof an_thingof cd_thingof ct_thingof), sl_thingof⟩) (c_thingof : PySem.W.codeIn K cd_thingof "_thing_of" = true) (k_thingof : PySem.W.keepIn K (.ref f_thingof) = true)
    (a_lawpot : PySem.W.nsIn K mainGlobals "_law_pot" = some (some (.ref f_lawpot))) (l_lawpot : K.lookup f_lawpot = some ⟨oc_lawpot, od_lawpot, .func (PySem.W.fnOf "_law_pot" "_law_pot" (defArgs sPot) (defBody sPot) (defScope sPot) .none kV_lawpot dc_lawpot pm_lawpot an_lawpot cd_lawpot ct_lawpot), sl_lawpot⟩) (c_lawpot : PySem.W.codeIn K cd_lawpot "_law_pot" = true) (k_lawpot : PySem.W.keepIn K (.ref f_lawpot) = true)
    (a_lawdip : PySem.W.nsIn K mainGlobals "_law_dip" = some (some (.ref f_lawdip))) (l_lawdip : K.lookup f_lawdip = some ⟨oc_lawdip, od_lawdip, .func (PySem.W.fnOf "_law_dip" "_law_dip" (defArgs sDip) (defBody sDip) (defScope sDip) .none kV_lawdip dc_lawdip pm_lawdip an_lawdip cd_lawdip ct_lawdip), sl_lawdip⟩) (c_lawdip : PySem.W.codeIn K cd_lawdip "_law_dip" = true) (k_lawdip : PySem.W.keepIn K (.ref f_lawdip) = true)
    (a_lawboard : PySem.W.nsIn K mainGlobals "_law_board" = some (some (.ref f_lawboard))) (l_lawboard : K.lookup f_lawboard = some ⟨oc_lawboard, od_lawboard, .func (PySem.W.fnOf "_law_board" "_law_board" (defArgs sBoard) (defBody sBoard) (defScope sBoard) .none kV_lawboard dc_lawboard pm_lawboard an_lawboard cd_lawboard ct_lawboard), sl_lawboard⟩) (c_lawboard : PySem.W.codeIn K cd_lawboard "_law_board" = true) (k_lawboard : PySem.W.keepIn K (.ref f_lawboard) = true)
    (a_lawcells : PySem.W.nsIn K mainGlobals "_law_cells" = some (some (.ref f_lawcells))) (l_lawcells : K.lookup f_lawcells = some ⟨oc_lawcells, od_lawcells, .func (PySem.W.fnOf "_law_cells" "_law_cells" (defArgs sCells) (defBody sCells) (defScope sCells) .none kV_lawcells dc_lawcells pm_lawcells an_lawcells cd_lawcells ct_lawcells), sl_lawcells⟩) (c_lawcells : PySem.W.codeIn K cd_lawcells "_law_cells" = true) (k_lawcells : PySem.W.keepIn K (.ref f_lawcells) = true)
    (a_lawname : PySem.W.nsIn K mainGlobals "_law_name" = some (some (.ref f_lawname))) (l_lawname : K.lookup f_lawname = some ⟨oc_lawname, od_lawname, .func (PySem.W.fnOf "_law_name" "_law_name" (defArgs sName) (defBody sName) (defScope sName) .none kV_lawname dc_lawname pm_lawname an_lawname cd_lawname ct_lawname), sl_lawname⟩) (c_lawname : PySem.W.codeIn K cd_lawname "_law_name" = true) (k_lawname : PySem.W.keepIn K (.ref f_lawname) = true)
    (a_lawnames : PySem.W.nsIn K mainGlobals "_law_names" = some (some (.ref f_lawnames))) (l_lawnames : K.lookup f_lawnames = some ⟨oc_lawnames, od_lawnames, .func (PySem.W.fnOf "_law_names" "_law_names" (defArgs sNames) (defBody sNames) (defScope sNames) .none kV_lawnames dc_lawnames pm_lawnames an_lawnames cd_lawnames ct_lawnames), sl_lawnames⟩) (c_lawnames : PySem.W.codeIn K cd_lawnames "_law_names" = true) (k_lawnames : PySem.W.keepIn K (.ref f_lawnames) = true)
    (a_lawmixed : PySem.W.nsIn K mainGlobals "_law_mixed" = some (some (.ref f_lawmixed))) (l_lawmixed : K.lookup f_lawmixed = some ⟨oc_lawmixed, od_lawmixed, .func (PySem.W.fnOf "_law_mixed" "_law_mixed" (defArgs sMixed) (defBody sMixed) (defScope sMixed) .none kV_lawmixed dc_lawmixed pm_lawmixed an_lawmixed cd_lawmixed ct_lawmixed), sl_lawmixed⟩) (c_lawmixed : PySem.W.codeIn K cd_lawmixed "_law_mixed" = true) (k_lawmixed : PySem.W.keepIn K (.ref f_lawmixed) = true)
    (a_lawstanding : PySem.W.nsIn K mainGlobals "_law_standing" = some (some (.ref f_lawstanding))) (l_lawstanding : K.lookup f_lawstanding = some ⟨oc_lawstanding, od_lawstanding, .func (PySem.W.fnOf "_law_standing" "_law_standing" (defArgs sStanding) (defBody sStanding) (defScope sStanding) .none kV_lawstanding dc_lawstanding pm_lawstanding an_lawstanding cd_lawstanding ct_lawstanding), sl_lawstanding⟩) (c_lawstanding : PySem.W.codeIn K cd_lawstanding "_law_standing" = true) (k_lawstanding : PySem.W.keepIn K (.ref f_lawstanding) = true)
    (a_lawtext : PySem.W.nsIn K mainGlobals "_law_text" = some (some (.ref f_lawtext))) (l_lawtext : K.lookup f_lawtext = some ⟨oc_lawtext, od_lawtext, .func (PySem.W.fnOf "_law_text" "_law_text" (defArgs sText) (defBody sText) (defScope sText) .none kV_lawtext dc_lawtext pm_lawtext an_lawtext cd_lawtext ct_lawtext), sl_lawtext⟩) (c_lawtext : PySem.W.codeIn K cd_lawtext "_law_text" = true) (k_lawtext : PySem.W.keepIn K (.ref f_lawtext) = true)
    (a_law : PySem.W.nsIn K mainGlobals "law" = some (some (.ref f_law))) (l_law : K.lookup f_law = some ⟨oc_law, od_law, .func (PySem.W.fnOf "law" "law" (defArgs sLaw) (defBody sLaw) (defScope sLaw) .none kV_law dc_law pm_law an_law cd_law ct_law), sl_law⟩) (c_law : PySem.W.codeIn K cd_law "law" = true) (k_law : PySem.W.keepIn K (.ref f_law) = true)
    (z_range : PySem.W.nsIn K mainGlobals "range" = some none)
    (z_max : PySem.W.nsIn K mainGlobals "max" = some none)
    (z_min : PySem.W.nsIn K mainGlobals "min" = some none)
    (z_len : PySem.W.nsIn K mainGlobals "len" = some none)
    (z_int : PySem.W.nsIn K mainGlobals "int" = some none)
    (z_list : PySem.W.nsIn K mainGlobals "list" = some none)
    (z_tuple : PySem.W.nsIn K mainGlobals "tuple" = some none)
    (z_all : PySem.W.nsIn K mainGlobals "all" = some none)
    (z_enumerate : PySem.W.nsIn K mainGlobals "enumerate" = some none)
    (z_repr : PySem.W.nsIn K mainGlobals "repr" = some none)
    {t_MOST_LETTERS : Tok} (g_MOST_LETTERS : PySem.W.nsIn K mainGlobals "MOST_LETTERS" = some (some (.int 4 t_MOST_LETTERS)))
    {t_LETTERS : Tok} (g_LETTERS : PySem.W.nsIn K mainGlobals "LETTERS" = some (some (.str abc t_LETTERS)))
    : ∃ fd : FuncData, (∀ (s : Shared) (v : Value), BindsTo s fd ⟨[v], []⟩ [("script", v)]) ∧ ∀ base : Heap, K.In base → base.Ns mainGlobals mg → GRun l.prog w K mg base CX0 4 fa fd ["script"] (spLaw K) := by
  have e := hfa.symm.trans (PySem.W.mg_of X G a_law)
  cases e
  have F_highandwide := fun_mk (st := sHighAndWide) l_highandwide c_highandwide k_highandwide
  have b_highandwide := F_highandwide.binds (ps := ["board"]) fun _ _ _ _ _ _ us hl => match us, hl with | [_], _ => rfl
  have g_highandwide := PySem.W.mg_of X G a_highandwide
  have F_readstanding := fun_mk (st := sReadStanding) l_readstanding c_readstanding k_readstanding
  have b_readstanding := F_readstanding.binds (ps := ["board", "text"]) fun _ _ _ _ _ _ us hl => match us, hl with | [_, _], _ => rfl
  have g_readstanding := PySem.W.mg_of X G a_readstanding
  have F_isname := fun_mk (st := sIsName) l_isname c_isname k_isname
  have b_isname := F_isname.binds (ps := ["word"]) fun _ _ _ _ _ _ us hl => match us, hl with | [_], _ => rfl
  have g_isname := PySem.W.mg_of X G a_isname
  have F_isdue := fun_mk (st := sIsDue) l_isdue c_isdue k_isdue
  have b_isdue := F_isdue.binds (ps := ["word", "at", "wide"]) fun _ _ _ _ _ _ us hl => match us, hl with | [_, _, _], _ => rfl
  have g_isdue := PySem.W.mg_of X G a_isdue
  have F_thingof := fun_mk (st := sThingOf) l_thingof c_thingof k_thingof
  have b_thingof := F_thingof.binds (ps := ["word"]) fun _ _ _ _ _ _ us hl => match us, hl with | [_], _ => rfl
  have g_thingof := PySem.W.mg_of X G a_thingof
  have F_lawpot := fun_mk (st := sPot) l_lawpot c_lawpot k_lawpot
  have b_lawpot := F_lawpot.binds (ps := ["script", "at"]) fun _ _ _ _ _ _ us hl => match us, hl with | [_, _], _ => rfl
  have g_lawpot := PySem.W.mg_of X G a_lawpot
  have F_lawdip := fun_mk (st := sDip) l_lawdip c_lawdip k_lawdip
  have b_lawdip := F_lawdip.binds (ps := ["pot", "many"]) fun _ _ _ _ _ _ us hl => match us, hl with | [_, _], _ => rfl
  have g_lawdip := PySem.W.mg_of X G a_lawdip
  have F_lawboard := fun_mk (st := sBoard) l_lawboard c_lawboard k_lawboard
  have b_lawboard := F_lawboard.binds (ps := ["pot", "most"]) fun _ _ _ _ _ _ us hl => match us, hl with | [_, _], _ => rfl
  have g_lawboard := PySem.W.mg_of X G a_lawboard
  have F_lawcells := fun_mk (st := sCells) l_lawcells c_lawcells k_lawcells
  have b_lawcells := F_lawcells.binds (ps := ["board"]) fun _ _ _ _ _ _ us hl => match us, hl with | [_], _ => rfl
  have g_lawcells := PySem.W.mg_of X G a_lawcells
  have F_lawname := fun_mk (st := sName) l_lawname c_lawname k_lawname
  have b_lawname := F_lawname.binds (ps := ["style", "sign", "number"]) fun _ _ _ _ _ _ us hl => match us, hl with | [_, _, _], _ => rfl
  have g_lawname := PySem.W.mg_of X G a_lawname
  have F_lawnames := fun_mk (st := sNames) l_lawnames c_lawnames k_lawnames
  have b_lawnames := F_lawnames.binds (ps := ["pot", "many"]) fun _ _ _ _ _ _ us hl => match us, hl with | [_, _], _ => rfl
  have g_lawnames := PySem.W.mg_of X G a_lawnames
  have F_lawmixed := fun_mk (st := sMixed) l_lawmixed c_lawmixed k_lawmixed
  have b_lawmixed := F_lawmixed.binds (ps := ["pot", "things"]) fun _ _ _ _ _ _ us hl => match us, hl with | [_, _], _ => rfl
  have g_lawmixed := PySem.W.mg_of X G a_lawmixed
  have F_lawstanding := fun_mk (st := sStanding) l_lawstanding c_lawstanding k_lawstanding
  have b_lawstanding := F_lawstanding.binds (ps := ["pot", "many"]) fun _ _ _ _ _ _ us hl => match us, hl with | [_, _], _ => rfl
  have g_lawstanding := PySem.W.mg_of X G a_lawstanding
  have F_lawtext := fun_mk (st := sText) l_lawtext c_lawtext k_lawtext
  have b_lawtext := F_lawtext.binds (ps := ["board", "standing"]) fun _ _ _ _ _ _ us hl => match us, hl with | [_, _], _ => rfl
  have g_lawtext := PySem.W.mg_of X G a_lawtext
  have F_law := fun_mk (st := sLaw) l_law c_law k_law
  have m_range := PySem.W.mg_none_of X G z_range
  have m_max := PySem.W.mg_none_of X G z_max
  have m_min := PySem.W.mg_none_of X G z_min
  have m_len := PySem.W.mg_none_of X G z_len
  have m_int := PySem.W.mg_none_of X G z_int
  have m_list := PySem.W.mg_none_of X G z_list
  have m_tuple := PySem.W.mg_none_of X G z_tuple
  have m_all := PySem.W.mg_none_of X G z_all
  have m_enumerate := PySem.W.mg_none_of X G z_enumerate
  have m_repr := PySem.W.mg_none_of X G z_repr
  have q_MOST_LETTERS := PySem.W.mg_of X G g_MOST_LETTERS
  have q_LETTERS := PySem.W.mg_of X G g_LETTERS
  refine ⟨PySem.W.fnOf "law" "law" (defArgs sLaw) (defBody sLaw) (defScope sLaw) .none kV_law dc_law pm_law an_law cd_law ct_law, fun s v => .of_eq rfl, fun base _ _ => ?_⟩
  have D__law_pot : Def l.prog w K mg base 1 "_law_pot" ["script", "at"] _ f_lawpot _ := ⟨ok_pot F_lawpot m_len m_max, g_lawpot, F_lawpot.kp, b_lawpot⟩
  have D__law_dip : Def l.prog w K mg base 1 "_law_dip" ["pot", "many"] _ f_lawdip _ := ⟨ok_dip F_lawdip, g_lawdip, F_lawdip.kp, b_lawdip⟩
  have D__law_board : Def l.prog w K mg base 2 "_law_board" ["pot", "most"] _ f_lawboard _ := ⟨ok_board F_lawboard D__law_dip, g_lawboard, F_lawboard.kp, b_lawboard⟩
  have D__law_cells : Def l.prog w K mg base 1 "_law_cells" ["board"] _ f_lawcells _ := ⟨ok_cells F_lawcells, g_lawcells, F_lawcells.kp, b_lawcells⟩
  have D__law_name : Def l.prog w K mg base 1 "_law_name" ["style", "sign", "number"] _ f_lawname _ := ⟨ok_name F_lawname m_int, g_lawname, F_lawname.kp, b_lawname⟩
  have D__law_names : Def l.prog w K mg base 2 "_law_names" ["pot", "many"] _ f_lawnames _ := ⟨ok_names F_lawnames D__law_dip D__law_name m_max m_range, g_lawnames, F_lawnames.kp, b_lawnames⟩
  have D__law_mixed : Def l.prog w K mg base 2 "_law_mixed" ["pot", "things"] _ f_lawmixed _ := ⟨ok_mixed F_lawmixed D__law_dip m_list m_len m_range, g_lawmixed, F_lawmixed.kp, b_lawmixed⟩
  have D__law_standing : Def l.prog w K mg base 3 "_law_standing" ["pot", "many"] _ f_lawstanding _ := ⟨ok_standing F_lawstanding D__law_dip D__law_names D__law_mixed m_tuple, g_lawstanding, F_lawstanding.kp, b_lawstanding⟩
  have D__law_text : Def l.prog w K mg base 1 "_law_text" ["board", "standing"] _ f_lawtext _ := ⟨ok_text F_lawtext m_range m_len, g_lawtext, F_lawtext.kp, b_lawtext⟩
  have D_high_and_wide : Def l.prog w K mg base 1 "high_and_wide" ["board"] _ f_highandwide _ := ⟨ok_high F_highandwide, g_highandwide, F_highandwide.kp, b_highandwide⟩
  have D_is_name : Def l.prog w K mg base 1 "is_name" ["word"] _ f_isname _ := ⟨ok_isName F_isname m_len m_all q_MOST_LETTERS q_LETTERS, g_isname, F_isname.kp, b_isname⟩
  have D__thing_of : Def l.prog w K mg base 1 "_thing_of" ["word"] _ f_thingof _ := ⟨ok_thingOf F_thingof, g_thingof, F_thingof.kp, b_thingof⟩
  have D__is_due : Def l.prog w K mg base 2 "_is_due" ["word", "at", "wide"] _ f_isdue _ := ⟨ok_isDue F_isdue D__thing_of D_is_name, g_isdue, F_isdue.kp, b_isdue⟩
  have D_read_standing : Def l.prog w K mg base 3 "read_standing" ["board", "text"] _ f_readstanding _ := ⟨ok_readOk F_readstanding D_high_and_wide D__thing_of D__is_due m_enumerate m_len m_tuple, g_readstanding, F_readstanding.kp, b_readstanding⟩
  exact ok_law F_law D__law_pot D__law_board D__law_cells D__law_standing D__law_text D_read_standing m_range m_max m_min m_len m_repr
end L_k02
open PySem PySem.W PyProof.Rows
set_option maxHeartbeats 0 in
theorem PySem.Challenge.cw_stridelots_k02_standings_read_holds : PySem.Challenge.rw_stridelots_k02_standings_read.Holds := by
  w_on; o_law; k_head; (case hw => w_witness2)
  k_fill
  refine Lot.walk_g (l := PySem.Challenge.rw_stridelots_k02_standings_read) (n := 63) (k := 4) (x := "script") (CX := fun _ => L2.CX0) (sp := fun w => L_k02.spLaw _) rfl (by decide) rfl ⟨rfl, by decide, by decide⟩ (fun w h Y => PySem.W.kIn_of Y) ?F (fun _ _ a ns hl _ hS => ⟨a, ns, rfl, hS, hl, fun _ => rfl⟩) (fun _ _ _ _ _ h => h)
  case F =>
    intro w mg fa h KX G hmg
    refine' L_k02.all_mk KX G hmg ?a_highandwide ?l_highandwide ?c_highandwide ?k_highandwide ?a_readstanding ?l_readstanding ?c_readstanding ?k_readstanding ?a_isname ?l_isname ?c_isname ?k_isname ?a_isdue ?l_isdue ?c_isdue ?k_isdue ?a_thingof ?l_thingof ?c_thingof ?k_thingof ?a_lawpot ?l_lawpot ?c_lawpot ?k_lawpot ?a_lawdip ?l_lawdip ?c_lawdip ?k_lawdip ?a_lawboard ?l_lawboard ?c_lawboard ?k_lawboard ?a_lawcells ?l_lawcells ?c_lawcells ?k_lawcells ?a_lawname ?l_lawname ?c_lawname ?k_lawname ?a_lawnames ?l_lawnames ?c_lawnames ?k_lawnames ?a_lawmixed ?l_lawmixed ?c_lawmixed ?k_lawmixed ?a_lawstanding ?l_lawstanding ?c_lawstanding ?k_lawstanding ?a_lawtext ?l_lawtext ?c_lawtext ?k_lawtext ?a_law ?l_law ?c_law ?k_law ?z_range ?z_max ?z_min ?z_len ?z_int ?z_list ?z_tuple ?z_all ?z_enumerate ?z_repr ?g_MOST_LETTERS ?g_LETTERS
    (case a_highandwide => k_is); (case l_highandwide => k_is); (case c_highandwide => k_is); (case k_highandwide => k_is); (case a_readstanding => k_is); (case l_readstanding => k_is); (case c_readstanding => k_is); (case k_readstanding => k_is); (case a_isname => k_is); (case l_isname => k_is); (case c_isname => k_is); (case k_isname => k_is); (case a_isdue => k_is); (case l_isdue => k_is); (case c_isdue => k_is); (case k_isdue => k_is); (case a_thingof => k_is); (case l_thingof => k_is); (case c_thingof => k_is); (case k_thingof => k_is); (case a_lawpot => k_is); (case l_lawpot => k_is); (case c_lawpot => k_is); (case k_lawpot => k_is); (case a_lawdip => k_is); (case l_lawdip => k_is); (case c_lawdip => k_is); (case k_lawdip => k_is); (case a_lawboard => k_is); (case l_lawboard => k_is); (case c_lawboard => k_is); (case k_lawboard => k_is); (case a_lawcells => k_is); (case l_lawcells => k_is); (case c_lawcells => k_is); (case k_lawcells => k_is); (case a_lawname => k_is); (case l_lawname => k_is); (case c_lawname => k_is); (case k_lawname => k_is); (case a_lawnames => k_is); (case l_lawnames => k_is); (case c_lawnames => k_is); (case k_lawnames => k_is); (case a_lawmixed => k_is); (case l_lawmixed => k_is); (case c_lawmixed => k_is); (case k_lawmixed => k_is); (case a_lawstanding => k_is); (case l_lawstanding => k_is); (case c_lawstanding => k_is); (case k_lawstanding => k_is); (case a_lawtext => k_is); (case l_lawtext => k_is); (case c_lawtext => k_is); (case k_lawtext => k_is); (case a_law => k_is); (case l_law => k_is); (case c_law => k_is); (case k_law => k_is); (case z_range => k_is); (case z_max => k_is); (case z_min => k_is); (case z_len => k_is); (case z_int => k_is); (case z_list => k_is); (case z_tuple => k_is); (case z_all => k_is); (case z_enumerate => k_is); (case z_repr => k_is); (case g_MOST_LETTERS => k_is); (case g_LETTERS => k_is)

