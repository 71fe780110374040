import PyProof.Rows.All
import Wide.All
import OpenK.AllK
import Wide.FinOn
import HandS.ForMost
import HandS.Conv
import HandS.Zip
import HandS.Strs
import HandS.Deep
import HandS.IsInst
import HandS.Wide
import HandS.SortRule
import HandS.TupAny
import HandS.Style
import HandS.Flow
import HandS.Rev
import HandS.AnyAll
import HandS.TupMul
import HandS.NoneIn
import HandS.GenList
import HandS.EndTab
import PyProof.SumWalkG
import PyProof.ReprRoads
import PyProof.SeqIndex
import HandS.SortInts
import PyProof.ReprText
import KE.KIntText
import HandS.Iter
import HandS.EndOwn
import HandS.Words
import KE.GoesEnum
import HandS.WideBits
import KE.BitLaws
import PySem.Challenge.RW_switchrows_k12_nets_about
/-! A small language over plain data: what the programs and laws are run in, before it is tied to the model. -/
namespace Sw

/-- data that never changes; pr: a pair that a walk hands out, for its targets alone -/
inductive D where
  | non | bl (b : Bool) | int (i : Int) | str (s : List Nat) | tup (xs : List D) | lst (xs : List D) | ty (n : Nat) | pr (xs : List D)
  deriving Inhabited
/-- what a changing object holds: a list, a set of intsOf -/
inductive O where
  | l (xs : List D) | s (xs : List Int)
/-- a value at hand: data, or a new object that nothing else holds -/
inductive T where
  | im (d : D) | nu (o : O)
/-- a slot: empty, data, an object that this slot alone holds (b: lent by the caller), a list that the caller lent and that is frozen now -/
inductive W where
  | un | im (d : D) | mu (b : Bool) (o : O) | fz (xs : List D)
abbrev En := List W
inductive Res (α : Type) where
  | ok (a : α) (e : En) | ex (k : Nat) (e : En) | bad

@[reducible] def Res.bind {α β : Type} (r : Res α) (f : α → En → Res β) : Res β :=
  match r with
  | .ok a e => f a e
  | .ex k e => .ex k e
  | .bad => .bad
def Res.of {α : Type} (o : Option α) (e : En) : Res α := match o with | some a => .ok a e | none => .bad

inductive BOp where
  | add | sub | mul | fdiv | mod | pow | shl | shr | band | bor | bxor
inductive COp where
  | eq | ne | lt | le | gt | ge | is | isn | inn | nin
inductive BI where
  | len | range | tuple | list | sorted | sum | all | any | zip | enum | rev | repr | isinst | max | min | set | str | int | abs
inductive MT where
  | append | pop | index | join | split | startswith | add | extend | insert | count | bitlen | removeprefix | partition | isascii | isdigit | lindex
/-- what becomes of a comprehension's items -/
inductive LK where
  | list | tuple | all | any | sum | set

/-- targets -/
inductive G where
  | n (i : Nat) | nil | cons (a b : G) | t (gs : G)

inductive E where
  | c (d : D) | v (i : Nat) | op (o : BOp) (a b : E) | cmp (o : COp) (a b : E) | chain (o p : COp) (a b c : E)
  | neg (a : E) | no (a : E) | an (a b : E) | oo (a b : E) | ite (c a b : E)
  | nil | cons (a b : E) | tup (es : E) | lst (es : E)
  | ix (a i : E) | sl (a lo hi : E) | rv (a : E)
  | call (f : Nat) (es : E) | bi (b : BI) (es : E) | mt (m : MT) (a : E) (es : E)
  | lc (k : LK) (own : List Nat) (g : G) (it : E) (ifs : E) (e : E)
  | col (k : LK) (it : E)

inductive S where
  | skip | seq (a b : S) | asg (g : G) (e : E) | six (k : Nat) (i e : E) | aug (k : Nat) (o : BOp) (e : E) | swp (k : Nat) (i j a b : E)
  | ex (e : E) | ret (e : E) | ite (c : E) (a b : S) | for (g : G) (it : E) (b : S) | wh (c : E) (b : S) | brk | cont

inductive Fl where
  | nx | rt (t : T) | bk | ct

def SL : Nat := 16777216

/-! ### data -/
def T.d : T → Option D
  | .im d => some d
  | .nu (.l xs) => some (.lst xs)
  | .nu (.s _) => none
def d2 (f : D → D → Option T) (x y : T) : Option T := match x.d, y.d with
  | some a, some b => f a b
  | _, _ => none
mutual
def D.eq : D → D → Bool
  | .non, .non => true
  | .bl a, .bl b => a == b
  | .bl a, .int j => (if a then 1 else 0) == j
  | .int i, .bl b => i == (if b then 1 else 0)
  | .int i, .int j => i == j
  | .str a, .str b => a == b
  | .tup xs, .tup ys => D.eqs xs ys
  | .lst xs, .lst ys => D.eqs xs ys
  | .ty a, .ty b => a == b
  | _, _ => false
def D.eqs : List D → List D → Bool
  | [], [] => true
  | x :: xs, y :: ys => D.eq x y && D.eqs xs ys
  | _, _ => false
end
def codes (s : String) : List Nat := s.toList.map Char.toNat
def natCodes (n : Nat) : List Nat := (Nat.toDigits 10 n).map Char.toNat
def intCodes (i : Int) : List Nat := if i < 0 then 45 :: natCodes i.natAbs else natCodes i.natAbs
def joinCodes (sep : List Nat) : List (List Nat) → List Nat
  | [] => []
  | [x] => x
  | x :: xs => x ++ sep ++ joinCodes sep xs
mutual
/-- repr; texts without quotes, back strokes, or signs beyond ~ alone -/
def D.repr : D → List Nat
  | .non => [78, 111, 110, 101]
  | .bl b => if b then [84, 114, 117, 101] else [70, 97, 108, 115, 101]
  | .int i => intCodes i
  | .str s => [39] ++ s ++ [39]
  | .tup xs => [40] ++ joinCodes [44, 32] (D.reprs xs) ++ (if xs.length == 1 then [44, 41] else [41])
  | .lst xs => [91] ++ joinCodes [44, 32] (D.reprs xs) ++ [93]
  | .ty _ => []
  | .pr _ => []
def D.reprs : List D → List (List Nat)
  | [] => []
  | x :: xs => D.repr x :: D.reprs xs
end
/-- the texts that repr is served for -/
def okStr (s : List Nat) : Bool := s == [] || s == [97] || s == [120, 32, 121]
mutual
/-- data that repr is served for -/
def D.shw : D → Bool
  | .non => true
  | .bl _ => true
  | .int i => decide (i.natAbs < 2 ^ 1900)
  | .str s => okStr s
  | .tup xs => D.shws xs
  | .lst xs => D.shws xs
  | .ty _ => false
  | .pr _ => false
def D.shws : List D → Bool
  | [] => true
  | x :: xs => D.shw x && D.shws xs
end
def D.isSeq : D → Bool
  | .tup _ => true
  | .lst _ => true
  | _ => false
mutual
def D.dep : D → Nat
  | .tup xs => D.deps xs + 1
  | .lst xs => D.deps xs + 1
  | .ty _ => 0
  | .pr _ => 0
  | .str _ => 0
  | .non => 0
  | .bl _ => 0
  | .int _ => 0
def D.deps : List D → Nat
  | [] => 0
  | x :: xs => max (D.dep x) (D.deps xs)
end
mutual
def D.noTy : D → Bool
  | .tup xs => D.noTys xs
  | .lst xs => D.noTys xs
  | .ty _ => false
  | .pr _ => false
  | .str s => s.all fun c => decide (c < 1114112)
  | .non => true
  | .bl _ => true
  | .int _ => true
def D.noTys : List D → Bool
  | [] => true
  | x :: xs => D.noTy x && D.noTys xs
end
/-- data that == and in are served for -/
def D.flat (d : D) : Bool := D.noTy d && decide (D.dep d ≤ 60)
/-- no list and no tuple -/
def D.pl (d : D) : Bool := D.noTy d && decide (D.dep d = 0) && !D.isSeq d
def truth : T → Option Bool
  | .im .non => some false
  | .im (.bl b) => some b
  | .im (.int i) => some (i != 0)
  | .im (.str s) => if s.length ≤ SL then some (!s.isEmpty) else none
  | .im (.tup xs) => some (!xs.isEmpty)
  | .im (.lst xs) => some (!xs.isEmpty)
  | .nu (.l xs) => some (!xs.isEmpty)
  | _ => none
def mulOk (i j : Int) : Bool := decide (i.natAbs < 2 ^ 64) || decide (j.natAbs < 2 ^ 64)
def binD (o : BOp) (x y : T) : Option T := d2 (fun a b => match o, a, b with
  | .add, .int i, .int j => some (.im (.int (i + j)))
  | .add, .tup xs, .tup ys => if xs.length + ys.length ≤ SL then some (.im (.tup (xs ++ ys))) else none
  | .add, .lst xs, .lst ys => if xs.length + ys.length ≤ SL then some (.nu (.l (xs ++ ys))) else none
  | .sub, .int i, .int j => some (.im (.int (i - j)))
  | .mul, .int i, .int j => if mulOk i j then some (.im (.int (i * j))) else none
  | .fdiv, .int i, .int j => if 0 < j ∧ j.natAbs < 2 ^ 9000 then some (.im (.int (i / j))) else none
  | .mod, .int i, .int j => if 0 < j then some (.im (.int (i % j))) else none
  | .pow, .int i, .int j => if 0 ≤ j ∧ j ≤ 10000 ∧ i.natAbs < 2 ^ 64 then some (.im (.int (i ^ j.toNat))) else none
  | .shl, .int i, .int j => if 0 ≤ j ∧ j ≤ 1000 ∧ i.natAbs < 2 ^ 64 then some (.im (.int (i * 2 ^ j.toNat))) else none
  | .shr, .int i, .int j => if 0 ≤ j ∧ j ≤ 1000 then some (.im (.int (i / 2 ^ j.toNat))) else none
  | .band, .int i, .int j => if 0 ≤ i ∧ 0 ≤ j then some (.im (.int ((i.toNat &&& j.toNat : Nat) : Int))) else none
  | .bxor, .int i, .int j => if 0 ≤ i ∧ 0 ≤ j then some (.im (.int (i + j - 2 * ((i.toNat &&& j.toNat : Nat) : Int)))) else none
  | _, _, _ => none) x y
/-- [x] * n; a tuple * n -/
def repT (x y : T) : Option T := match x, y with
  | .nu (.l [d]), .im (.int j) => if 0 ≤ j ∧ j < 10000 then some (.nu (.l (List.replicate j.toNat d))) else none
  | .im (.tup (d :: ds)), .im (.int j) => if 0 ≤ j ∧ j ≤ 1000 ∧ ds.length < 1000 then some (.im (.tup (List.replicate j.toNat (d :: ds)).flatten)) else none
  | .im (.tup []), .im (.int j) => if 0 ≤ j ∧ j ≤ 1000 then some (.im (.tup [])) else none
  | _, _ => none
def binop (o : BOp) (x y : T) : Option T := match o with
  | .mul => match repT x y with
    | some t => some t
    | none => binD .mul x y
  | o => binD o x y
def cmpop (o : COp) (x y : T) : Option Bool := match x.d, y.d with
  | some a, some b => match o with
    | .eq => if a.flat && b.flat then some (D.eq a b) else none
    | .ne => if a.flat && b.flat then some (!D.eq a b) else none
    | .lt => match a, b with | .int i, .int j => some (decide (i < j)) | _, _ => none
    | .le => match a, b with | .int i, .int j => some (decide (i ≤ j)) | _, _ => none
    | .gt => match a, b with | .int i, .int j => some (decide (j < i)) | _, _ => none
    | .ge => match a, b with | .int i, .int j => some (decide (j ≤ i)) | _, _ => none
    | .is => match b with
      | .non => some (match a with | .non => true | _ => false)
      | .bl c => match a with | .bl e => some (e == c) | _ => none
      | _ => none
    | .isn => match b with
      | .non => some (match a with | .non => false | _ => true)
      | .bl c => match a with | .bl e => some (e != c) | _ => none
      | _ => none
    | .inn => match b with
      | .tup ys => if a.pl && ys.all D.pl then some (ys.any fun y => D.eq y a) else none
      | .lst ys => if a.flat && (D.lst ys).flat then some (ys.any fun y => D.eq y a) else none
      | _ => none
    | .nin => match b with
      | .tup ys => if a.pl && ys.all D.pl then some (!ys.any fun y => D.eq y a) else none
      | .lst ys => if a.flat && (D.lst ys).flat then some (!ys.any fun y => D.eq y a) else none
      | _ => none
  | some (.int i), none => match o, y with
    | .inn, .nu (.s xs) => some (xs.contains i)
    | .nin, .nu (.s xs) => some (!xs.contains i)
    | _, _ => none
  | _, _ => none
def ixE (n : Nat) (i : Int) : Option Nat := if 0 ≤ i then (if i < n then some i.toNat else none) else if -(n : Int) ≤ i then some (i + n).toNat else none
def atIx (xs : List D) (i : Int) : Option D := (ixE xs.length i).bind (xs[·]?)
def indexT (x y : T) : Option D := match x.d, y with
  | some (.tup xs), .im (.int i) => atIx xs i
  | some (.lst xs), .im (.int i) => atIx xs i
  | _, _ => none
/-- a bound of a slice: below nought from behind, within 0 .. n -/
def clip (n : Nat) (dflt : Nat) : Option Int → Nat
  | none => dflt
  | some i => if i < 0 then (i + n).toNat else min i.toNat n
def cut {α : Type} (xs : List α) (lo hi : Option Int) : List α :=
  (xs.drop (clip xs.length 0 lo)).take (clip xs.length xs.length hi - clip xs.length 0 lo)
def sliceT (x : T) (lo hi : Option Int) : Option T := match x.d with
  | some (.tup xs) => some (.im (.tup (cut xs lo hi)))
  | some (.lst xs) => some (.nu (.l (cut xs lo hi)))
  | _ => none
def revT (x : T) : Option T := match x.d with
  | some (.tup xs) => some (.im (.tup xs.reverse))
  | some (.lst xs) => some (.nu (.l xs.reverse))
  | _ => none
def intsOf : List D → Option (List Int)
  | [] => some []
  | .int i :: r => (intsOf r).map (i :: ·)
  | _ => none
def pairs : List D → Option (List (Int × Int))
  | [] => some []
  | .tup [.int i, .int j] :: r => (pairs r).map ((i, j) :: ·)
  | _ => none
def pairLe (a b : Int × Int) : Bool := decide (a.1 < b.1) || (a.1 == b.1 && decide (a.2 ≤ b.2))
def insBy {α : Type} (le : α → α → Bool) (x : α) : List α → List α
  | [] => [x]
  | y :: ys => if le x y then x :: y :: ys else y :: insBy le x ys
def sortBy {α : Type} (le : α → α → Bool) : List α → List α
  | [] => []
  | x :: xs => insBy le x (sortBy le xs)
def sortD (xs : List D) : Option (List D) := match intsOf xs with
  | some ns => if ns.length < 64 then some ((sortBy (fun a b => decide (a ≤ b)) ns).map D.int) else none
  | none => (pairs xs).map fun ps => (sortBy pairLe ps).map fun p => D.tup [.int p.1, .int p.2]
def rangeL (lo hi st : Int) : Option (List D) :=
  if -(2 ^ 60) ≤ lo ∧ lo < 2 ^ 60 ∧ -(2 ^ 60) ≤ hi ∧ hi < 2 ^ 60 ∧ 0 < st ∧ st < 2 ^ 29 then
    some ((List.range ((hi - lo + st - 1) / st).toNat).map fun (k : Nat) => D.int (lo + (k : Int) * st))
  else none
def seqOf : T → Option (List D)
  | .im (.tup xs) => some xs
  | .im (.lst xs) => some xs
  | .nu (.l xs) => some xs
  | _ => none
/-- isinstance by the number of a built-in class: 0 int, 1 bool, 2 str, 3 tuple, 4 list -/
def isInst (d : D) (n : Nat) : Option Bool := match n, d with
  | 0, .int _ => some true
  | 0, .bl _ => some true
  | 1, .bl _ => some true
  | 2, .str _ => some true
  | 3, .tup _ => some true
  | 4, .lst _ => some true
  | 0, .pr _ => none
  | 1, .pr _ => none
  | 2, .pr _ => none
  | 3, .pr _ => none
  | 4, .pr _ => none
  | 0, .ty _ => none
  | 1, .ty _ => none
  | 2, .ty _ => none
  | 3, .ty _ => none
  | 4, .ty _ => none
  | 0, _ => some false
  | 1, _ => some false
  | 2, _ => some false
  | 3, _ => some false
  | 4, _ => some false
  | _, _ => none
def oneT (f : T → Option T) : List T → Option T
  | [x] => f x
  | _ => none
def lenT (x : T) : Option T := match seqOf x with
  | some xs => some (.im (.int xs.length))
  | none => match x with
    | .im (.str s) => if s.length ≤ SL then some (.im (.int s.length)) else none
    | _ => none
def tupT (x : T) : Option T := (seqOf x).map fun xs => .im (.tup xs)
def lstT (x : T) : Option T := (seqOf x).map fun xs => .nu (.l xs)
def sortT (x : T) : Option T := match x.d with
  | some (.lst xs) => (sortD xs).map fun ys => .nu (.l ys)
  | some (.tup xs) => match intsOf xs with
    | some ns => some (.nu (.l ((sortBy (fun a b => decide (a ≤ b)) ns).map D.int)))
    | none => (pairs xs).map fun ps => .nu (.l ((sortBy pairLe ps).map fun p => D.tup [.int p.1, .int p.2]))
  | _ => none
def sumT (x : T) : Option T := ((seqOf x).bind intsOf).map fun ns => .im (.int ns.sum)
def blsOf : List D → Option (List Bool)
  | [] => some []
  | .bl b :: r => (blsOf r).map (b :: ·)
  | _ => none
def allT (x : T) : Option T := match x.d with
  | some (.lst xs) => (blsOf xs).map fun bs => .im (.bl (bs.all id))
  | _ => none
def reprT (x : T) : Option T := match x.d with
  | some (.bl b) => some (.im (.str (D.repr (.bl b))))
  | some d => if d.isSeq && d.shw && decide (d.repr.length ≤ SL) && decide (d.dep ≤ 60) then some (.im (.str d.repr)) else none
  | none => none
def isinstT : List T → Option T
  | [x, .im (.ty n)] => match x.d with
    | some d => (isInst d n).map fun b => .im (.bl b)
    | none => none
  | _ => none
def maxT : List T → Option T
  | [.im (.int i), .im (.int j)] => some (.im (.int (if j > i then j else i)))
  | _ => none
def minT : List T → Option T
  | [.im (.int i), .im (.int j)] => some (.im (.int (if j < i then j else i)))
  | _ => none
def setT : List T → Option T
  | [] => some (.nu (.s []))
  | _ => none
def intT : T → Option T
  | .im (.bl b) => some (.im (.int (if b then 1 else 0)))
  | .im (.int i) => some (.im (.int i))
  | _ => none
def bifn (b : BI) (as : List T) : Option T := match b with
  | .int => oneT intT as
  | .len => oneT lenT as
  | .tuple => oneT tupT as
  | .list => oneT lstT as
  | .sorted => oneT sortT as
  | .sum => oneT sumT as
  | .all => oneT allT as
  | .repr => oneT reprT as
  | .isinst => isinstT as
  | .max => maxT as
  | .min => minT as
  | .set => setT as
  | _ => none
def findIx (d : D) : List D → Option Nat
  | [] => none
  | x :: xs => if D.eq x d then some 0 else (findIx d xs).map (· + 1)
/-- a method of an object that a slot holds: the value, what the object holds behind it -/
def mtO (m : MT) (o : O) (as : List D) : Option (D × O) := match m, o, as with
  | .append, .l xs, [d] => if xs.length < SL then some (.non, .l (xs ++ [d])) else none
  | .pop, .l xs, [] => match xs.getLast? with | some x => some (x, .l xs.dropLast) | none => none
  | .pop, .l xs, [.int i] => if xs.length ≤ SL then (ixE xs.length i).bind fun k => (xs[k]?).map fun x => (x, .l (xs.eraseIdx k)) else none
  | .lindex, .l xs, [d] => if d.pl && xs.all D.pl then (findIx d xs).map fun k => (.int k, .l xs) else none
  | .add, .s xs, [.int i] => if xs.length < 4000 then some (.non, .s (if xs.contains i then xs else i :: xs)) else none
  | _, _, _ => none
/-- a method that changes nothing -/
def mtV (m : MT) (x : T) (as : List D) : Option T := match m, x.d, as with
  | .index, some (.tup xs), [d] => if d.pl && xs.all D.pl then (findIx d xs).map fun k => .im (.int k) else none
  | .bitlen, some (.int i), [] => if 0 < i then some (.im (.int ((Nat.log2 i.natAbs + 1 : Nat) : Int))) else none
  | _, _, _ => none

/-! ### slots -/
def setW (env : En) (i : Nat) (w : W) : En := env.set i w
def ofT : T → W
  | .im d => .im d
  | .nu o => .mu false o
/-- a slot may be stored: what the caller lent is never let go -/
def canSet (env : En) (i : Nat) : Bool := match env[i]? with
  | some (.mu true _) => false
  | some (.fz _) => false
  | some _ => true
  | none => false
def put (env : En) (i : Nat) (t : T) : Option En := if canSet env i then some (setW env i (ofT t)) else none
def wipeE (env : En) : List Nat → En
  | [] => env
  | i :: r => wipeE (setW env i .un) r
def unwipeE (old : En) (env : En) : List Nat → En
  | [] => env
  | i :: r => unwipeE old (setW env i (old.getD i .un)) r
mutual
/-- data given to targets -/
def give : G → D → En → Option En
  | .n i, d, env => put env i (.im d)
  | .t gs, .tup ds, env => gives gs ds env
  | .t gs, .pr ds, env => gives gs ds env
  | .t gs, .lst ds, env => gives gs ds env
  | _, _, _ => none
def gives : G → List D → En → Option En
  | .nil, [], env => some env
  | .cons a b, d :: ds, env => match give a d env with
    | some env' => gives b ds env'
    | none => none
  | _, _, _ => none
end
/-- the slots of targets -/
def G.sl : G → List Nat
  | .n i => [i]
  | .nil => []
  | .cons a b => G.sl a ++ G.sl b
  | .t gs => G.sl gs
/-- reading a slot, to look at it alone (vw) or to keep what is read -/
def rdV (vw : Bool) (i : Nat) (env : En) : Res T := match env[i]? with
  | some (.im d) => .ok (.im d) env
  | some (.fz xs) => .ok (.im (.lst xs)) env
  | some (.mu b (.l xs)) => if vw then .ok (.nu (.l xs)) env else .ok (.im (.lst xs)) (setW env i (if b then .fz xs else .im (.lst xs)))
  | some (.mu _ (.s xs)) => if vw then .ok (.nu (.s xs)) env else .bad
  | _ => .bad

/-! ### the walk of a comprehension, of loops -/
inductive Acc where
  | go (ds : List D) | stop (b : Bool)
def accStep (k : LK) (acc : List D) (t : T) : Option Acc := match k with
  | .all => match t with
    | .im (.bl b) => some (if b then .go [] else .stop false)
    | _ => none
  | .any => match t with
    | .im (.bl b) => some (if b then .stop true else .go [])
    | _ => none
  | .sum => match t with
    | .im (.int i) => some (.go (.int i :: acc))
    | _ => none
  | _ => match t.d with
    | some d => if acc.length < SL then some (.go (d :: acc)) else none
    | none => none
def accEnd (k : LK) (acc : List D) : Option T := match k with
  | .list => some (.nu (.l acc.reverse))
  | .tuple => some (.im (.tup acc.reverse))
  | .all => some (.im (.bl true))
  | .any => some (.im (.bl false))
  | .sum => (intsOf acc.reverse).map fun ns => .im (.int ns.sum)
  | .set => none
def lcLoop (k : LK) (own : List Nat) (g : G) (ifs : En → Res Bool) (e : En → Res T) : List D → List D → En → Res T
  | [], acc, env => Res.of (accEnd k acc) env
  | x :: xs, acc, env => match give g x (wipeE env own) with
    | none => .bad
    | some env1 => (ifs env1).bind fun b env2 =>
      if b then (e env2).bind fun t env3 => match accStep k acc t with
        | some (.go acc') => lcLoop k own g ifs e xs acc' env3
        | some (.stop b) => .ok (.im (.bl b)) env3
        | none => .bad
      else lcLoop k own g ifs e xs acc env2
def forLoop (g : G) (b : En → Res Fl) : List D → En → Res Fl
  | [], env => .ok .nx env
  | x :: xs, env => match give g x env with
    | none => .bad
    | some env1 => (b env1).bind fun f env2 => match f with
      | .nx => forLoop g b xs env2
      | .ct => forLoop g b xs env2
      | .bk => .ok .nx env2
      | .rt t => .ok (.rt t) env2
def whLoop (c : En → Res Bool) (b : En → Res Fl) : Nat → En → Res Fl
  | 0, _ => .bad
  | n + 1, env => (c env).bind fun k env1 => if k then (b env1).bind fun f env2 => match f with
      | .nx => whLoop c b n env2
      | .ct => whLoop c b n env2
      | .bk => .ok .nx env2
      | .rt t => .ok (.rt t) env2
    else .ok .nx env1

/-! ### arguments -/
/-- an argument: what the callee's slot gets, and the caller's slot that lends it -/
structure Ag where
  w : W
  from? : Option Nat
def agsOk : List Ag → List Nat → Bool
  | [], _ => true
  | a :: r, seen => match a.from? with
    | none => agsOk r seen
    | some i => !seen.contains i && agsOk r (i :: seen)
/-- what the callee left goes back to the slots that lent -/
def giveBack : List Ag → List W → En → Option En
  | [], _, env => some env
  | a :: r, w :: ws, env => match a.from? with
    | none => giveBack r ws env
    | some i => match w, env[i]? with
      | .mu _ o, some (.mu b _) => giveBack r ws (setW env i (.mu b o))
      | .fz xs, some (.mu b _) => giveBack r ws (setW env i (if b then .fz xs else .im (.lst xs)))
      | _, _ => none
  | _ :: _, [], _ => none
abbrev CF := Nat → List W → Option (Option (T × List W))

def doCall (cf : CF) (f : Nat) (as : List Ag) (env : En) : Res T :=
  if agsOk as [] then match cf f (as.map (·.w)) with
    | some (some (t, ws)) => Res.of ((giveBack as ws env).map fun e => e) env |>.bind fun e _ => .ok t e
    | _ => .bad
  else .bad
def truthR (r : Res T) : Res Bool := r.bind fun t env => Res.of (truth t) env
def intOf : T → Option Int
  | .im (.int i) => some i
  | _ => none

/-- how an expression is asked: its value (to look at alone, or to keep), items to keep, items to look at, a slice's bound, arguments, what is walked -/
inductive Md where
  | val (vw : Bool) | keep | look | bound | args | walk
inductive Out where
  | t (t : T) | ds (ds : List D) | ts (ts : List T) | oi (i : Option Int) | ag (as : List Ag)
def slotOf : E → Option Nat
  | .v i => some i
  | _ => none
def isNil : E → Bool
  | .nil => true
  | _ => false
def asT (r : Res Out) : Res T := r.bind fun o env => match o with | .t t => .ok t env | _ => .bad
def asDs (r : Res Out) : Res (List D) := r.bind fun o env => match o with | .ds t => .ok t env | _ => .bad
def asTs (r : Res Out) : Res (List T) := r.bind fun o env => match o with | .ts t => .ok t env | _ => .bad
def asOi (r : Res Out) : Res (Option Int) := r.bind fun o env => match o with | .oi t => .ok t env | _ => .bad
def asAg (r : Res Out) : Res (List Ag) := r.bind fun o env => match o with | .ag t => .ok t env | _ => .bad
def post (md : Md) (r : Res T) : Res Out := match md with
  | .val _ => r.bind fun t env => .ok (.t t) env
  | .bound => r.bind fun t env => Res.of ((intOf t).map fun i => .oi (some i)) env
  | .walk => r.bind fun t env => Res.of ((seqOf t).map .ds) env
  | _ => .bad
/-- whether the value is only looked at -/
def Md.vw : Md → Bool
  | .val b => b
  | .bound => true
  | _ => false
def rangeOf : List D → Option (List D)
  | [.int n] => rangeL 0 n 1
  | [.int a, .int b] => rangeL a b 1
  | [.int a, .int b, .int c] => rangeL a b c
  | _ => none
def zipOf : List D → Option (List D)
  | [.tup xs, .tup ys] => some (List.zipWith (fun a b => .pr [a, b]) xs ys)
  | [.lst xs, .lst ys] => some (List.zipWith (fun a b => .pr [a, b]) xs ys)
  | _ => none
def enumOf : List D → Option (List D)
  | [x] => (seqOf (.im x)).map fun xs => xs.zipIdx.map fun p => .pr [.int p.2, p.1]
  | _ => none
def revOf : List D → Option (List D)
  | [.tup xs] => some xs.reverse
  | _ => none
def walkB (b : BI) (ds : List D) : Option (List D) := match b with
  | .range => rangeOf ds
  | .zip => zipOf ds
  | .enum => enumOf ds
  | .rev => revOf ds
  | _ => none
def isWalk : BI → Bool
  | .range => true
  | .zip => true
  | .enum => true
  | .rev => true
  | _ => false
def isWalkMd : Md → Bool
  | .walk => true
  | _ => false
def colT (k : LK) (xs : List D) : Option T := match k with
  | .list => if xs.length ≤ SL then some (.nu (.l xs)) else none
  | .tuple => if xs.length ≤ SL then some (.im (.tup xs)) else none
  | _ => none
/-- a method asked of the object that slot k holds -/
def mtSlot (m : MT) (k : Nat) (ds : List D) (env : En) : Res T := match env[k]? with
  | some (.mu b o) => match mtO m o ds with
    | some (d, o') => .ok (.im d) (setW env k (.mu b o'))
    | none => Res.of (mtV m (.nu o) ds) env
  | _ => .bad
/-- a slot as an argument -/
def agSlot (i : Nat) (env : En) (rest : En → Res (List Ag)) : Res (List Ag) := match env[i]? with
  | some (.mu _ _) => (rest env).bind fun as env1 => match env1[i]? with
    | some (.mu _ o') => .ok (⟨.mu true o', some i⟩ :: as) env1
    | _ => .bad
  | some (.im d) => (rest env).bind fun as env => .ok (⟨.im d, none⟩ :: as) env
  | some (.fz xs) => (rest env).bind fun as env => .ok (⟨.im (.lst xs), none⟩ :: as) env
  | _ => .bad
/-- the slot holds an object of the kind that the method changes -/
def isMu (env : En) (k : Nat) (m : MT) : Bool := match env[k]? with
  | some (.mu _ (.l _)) => match m with | .add => false | _ => true
  | some (.mu _ (.s _)) => match m with | .add => true | _ => false
  | _ => false

def ev1 (cf : CF) : E → Md → En → Res Out
  | .c d, md, env => post md (.ok (.im d) env)
  | .v i, md, env => post md (rdV md.vw i env)
  | .op o a b, md, env => post md ((asT (ev1 cf a (.val true) env)).bind fun x env => (asT (ev1 cf b (.val true) env)).bind fun y env => Res.of (binop o x y) env)
  | .cmp o a b, md, env => post md ((asT (ev1 cf a (.val true) env)).bind fun x env => (asT (ev1 cf b (.val true) env)).bind fun y env => Res.of ((cmpop o x y).map fun b => .im (.bl b)) env)
  | .chain o p a b c, md, env => post md ((asT (ev1 cf a (.val true) env)).bind fun x env => (asT (ev1 cf b (.val true) env)).bind fun y env => (Res.of (cmpop o x y) env).bind fun k env =>
      if k then (asT (ev1 cf c (.val true) env)).bind fun z env => Res.of ((cmpop p y z).map fun b => .im (.bl b)) env else .ok (.im (.bl false)) env)
  | .neg a, md, env => post md ((asT (ev1 cf a (.val true) env)).bind fun x env => Res.of ((intOf x).map fun i => .im (.int (-i))) env)
  | .no a, md, env => post md ((truthR (asT (ev1 cf a (.val true) env))).bind fun b env => .ok (.im (.bl (!b))) env)
  | .an a b, md, env => post md ((asT (ev1 cf a (.val md.vw) env)).bind fun x env => (Res.of (truth x) env).bind fun k env => if k then asT (ev1 cf b (.val md.vw) env) else .ok x env)
  | .oo a b, md, env => post md ((asT (ev1 cf a (.val md.vw) env)).bind fun x env => (Res.of (truth x) env).bind fun k env => if k then .ok x env else asT (ev1 cf b (.val md.vw) env))
  | .ite c a b, md, env => post md ((truthR (asT (ev1 cf c (.val true) env))).bind fun k env => if k then asT (ev1 cf a (.val md.vw) env) else asT (ev1 cf b (.val md.vw) env))
  | .nil, md, env => match md with
    | .keep => .ok (.ds []) env
    | .look => .ok (.ts []) env
    | .args => .ok (.ag []) env
    | .bound => .ok (.oi none) env
    | _ => .bad
  | .cons a b, md, env => match md with
    | .keep => (asT (ev1 cf a (.val false) env)).bind fun x env => (asDs (ev1 cf b .keep env)).bind fun ds env => Res.of (x.d.map fun d => .ds (d :: ds)) env
    | .look => (asT (ev1 cf a (.val true) env)).bind fun x env => (asTs (ev1 cf b .look env)).bind fun ts env => .ok (.ts (x :: ts)) env
    | .args => match slotOf a with
      | some i => (agSlot i env fun env => asAg (ev1 cf b .args env)).bind fun as env => .ok (.ag as) env
      | none => (asT (ev1 cf a (.val false) env)).bind fun x env => (asAg (ev1 cf b .args env)).bind fun as env => .ok (.ag (⟨ofT x, none⟩ :: as)) env
    | _ => .bad
  | .tup es, md, env => post md ((asDs (ev1 cf es .keep env)).bind fun ds env => if ds.length ≤ SL then .ok (.im (.tup ds)) env else .bad)
  | .lst es, md, env => post md ((asDs (ev1 cf es .keep env)).bind fun ds env => if ds.length ≤ SL then .ok (.nu (.l ds)) env else .bad)
  | .ix a i, md, env => post md ((asT (ev1 cf a (.val true) env)).bind fun x env => (asT (ev1 cf i (.val true) env)).bind fun y env => Res.of ((indexT x y).map .im) env)
  | .sl a lo hi, md, env => post md ((asT (ev1 cf a (.val true) env)).bind fun x env => (asOi (ev1 cf lo .bound env)).bind fun l env => (asOi (ev1 cf hi .bound env)).bind fun h env => Res.of (sliceT x l h) env)
  | .rv a, md, env => post md ((asT (ev1 cf a (.val true) env)).bind fun x env => Res.of (revT x) env)
  | .call f es, md, env => post md ((asAg (ev1 cf es .args env)).bind fun as env => doCall cf f as env)
  | .bi b es, md, env =>
    if isWalk b then
      if isWalkMd md then (asDs (ev1 cf es .keep env)).bind fun ds env => Res.of ((walkB b ds).map .ds) env else .bad
    else post md ((asTs (ev1 cf es .look env)).bind fun as env => Res.of (bifn b as) env)
  | .mt m a es, md, env => post md (match slotOf a with
    | some k => if isMu env k m then (asDs (ev1 cf es .keep env)).bind fun ds env => mtSlot m k ds env
      else (rdV true k env).bind fun x env => (asDs (ev1 cf es .keep env)).bind fun ds env => Res.of (mtV m x ds) env
    | none => (asT (ev1 cf a (.val true) env)).bind fun x env => (asDs (ev1 cf es .keep env)).bind fun ds env => Res.of (mtV m x ds) env)
  | .lc k own g it ifs e, md, env => post md ((asDs (ev1 cf it .walk env)).bind fun xs env0 =>
      (lcLoop k own g (fun env => if isNil ifs then .ok true env else truthR (asT (ev1 cf ifs (.val true) env))) (fun env => asT (ev1 cf e (.val false) env)) xs [] env0).bind fun t env1 => .ok t (unwipeE env0 env1 own))
  | .col k it, md, env => post md ((asDs (ev1 cf it .walk env)).bind fun xs env => Res.of (colT k xs) env)
termination_by structural e => e

def ev (cf : CF) (e : E) (vw : Bool) (env : En) : Res T := asT (ev1 cf e (.val vw) env)
def evs (cf : CF) (e : E) (env : En) : Res (List D) := asDs (ev1 cf e .keep env)
def evt (cf : CF) (e : E) (env : En) : Res (List T) := asTs (ev1 cf e .look env)
def evo (cf : CF) (e : E) (env : En) : Res (Option Int) := asOi (ev1 cf e .bound env)
def eva (cf : CF) (e : E) (env : En) : Res (List Ag) := asAg (ev1 cf e .args env)
def evi (cf : CF) (e : E) (env : En) : Res (List D) := asDs (ev1 cf e .walk env)

/-! ### what an expression may touch, and whether a view outlives its use (both read off the text) -/
/-- the slots whose objects an expression's view may be -/
def vws : E → List Nat
  | .v i => [i]
  | .an a b => vws a ++ vws b
  | .oo a b => vws a ++ vws b
  | .ite _ a b => vws a ++ vws b
  | _ => []
def tou : E → Md → List Nat
  | .c _, _ => []
  | .v i, md => if md.vw then [] else [i]
  | .op _ a b, _ => tou a (.val true) ++ tou b (.val true)
  | .cmp _ a b, _ => tou a (.val true) ++ tou b (.val true)
  | .chain _ _ a b c, _ => tou a (.val true) ++ (tou b (.val true) ++ tou c (.val true))
  | .neg a, _ => tou a (.val true)
  | .no a, _ => tou a (.val true)
  | .an a b, md => tou a (.val md.vw) ++ tou b (.val md.vw)
  | .oo a b, md => tou a (.val md.vw) ++ tou b (.val md.vw)
  | .ite c a b, md => tou c (.val true) ++ (tou a (.val md.vw) ++ tou b (.val md.vw))
  | .nil, _ => []
  | .cons a b, md => match md with
    | .keep => tou a (.val false) ++ tou b .keep
    | .look => tou a (.val true) ++ tou b .look
    | _ => (match slotOf a with | some i => [i] | none => tou a (.val false)) ++ tou b .args
  | .tup es, _ => tou es .keep
  | .lst es, _ => tou es .keep
  | .ix a i, _ => tou a (.val true) ++ tou i (.val true)
  | .sl a lo hi, _ => tou a (.val true) ++ (tou lo .bound ++ tou hi .bound)
  | .rv a, _ => tou a (.val true)
  | .call _ es, _ => tou es .args
  | .bi b es, _ => if isWalk b then tou es .keep else tou es .look
  | .mt _ a es, _ => (match slotOf a with | some k => [k] | none => tou a (.val true)) ++ tou es .keep
  | .lc _ own _ it ifs e, _ => tou it .walk ++ ((tou ifs (.val true) ++ tou e (.val false)).filter fun i => !own.contains i)
  | .col _ it, _ => tou it .walk
def disj (xs ys : List Nat) : Bool := xs.all fun i => !ys.contains i
def okE : E → Md → Bool
  | .c _, _ => true
  | .v _, _ => true
  | .op _ a b, _ => okE a (.val true) && (okE b (.val true) && disj (vws a) (tou b (.val true)))
  | .cmp _ a b, _ => okE a (.val true) && (okE b (.val true) && disj (vws a) (tou b (.val true)))
  | .chain _ _ a b c, _ => okE a (.val true) && (okE b (.val true) && (okE c (.val true) && (disj (vws a) (tou b (.val true)) && disj (vws b) (tou c (.val true)))))
  | .neg a, _ => okE a (.val true)
  | .no a, _ => okE a (.val true)
  | .an a b, md => okE a (.val md.vw) && okE b (.val md.vw)
  | .oo a b, md => okE a (.val md.vw) && okE b (.val md.vw)
  | .ite c a b, md => okE c (.val true) && (okE a (.val md.vw) && okE b (.val md.vw))
  | .nil, _ => true
  | .cons a b, md => match md with
    | .keep => okE a (.val false) && okE b .keep
    | .look => okE a (.val true) && (okE b .look && disj (vws a) (tou b .look))
    | _ => okE a (.val false) && okE b .args
  | .tup es, _ => okE es .keep
  | .lst es, _ => okE es .keep
  | .ix a i, _ => okE a (.val true) && (okE i (.val true) && disj (vws a) (tou i (.val true)))
  | .sl a lo hi, _ => okE a (.val true) && (okE lo .bound && (okE hi .bound && disj (vws a) (tou lo .bound ++ tou hi .bound)))
  | .rv a, _ => okE a (.val true)
  | .call _ es, _ => okE es .args
  | .bi b es, _ => if isWalk b then okE es .keep else okE es .look
  | .mt _ a es, _ => okE a (.val true) && (okE es .keep && disj (vws a) (match slotOf a with | some _ => [] | none => tou es .keep))
  | .lc _ own g it ifs e, _ => okE it .walk && (okE ifs (.val true) && (okE e (.val false) && (G.sl g).all fun i => own.contains i))
  | .col _ it, _ => okE it .walk
def storeAt (k : Nat) (t j : T) (env : En) : Res Fl := match t.d with
  | some d => match j with
    | .im (.int n) => match env[k]? with
      | some (.mu b (.l xs)) => match ixE xs.length n with
        | some p => .ok .nx (setW env k (.mu b (.l (xs.set p d))))
        | none => .bad
      | _ => .bad
    | _ => .bad
  | none => .bad
def augI (o : BOp) (i j : Int) : Option Int := match o with
  | .add => some (i + j)
  | .sub => some (i - j)
  | .mul => if mulOk i j then some (i * j) else none
  | _ => none
def WF : Nat := 100000
def sx (cf : CF) : S → En → Res Fl
  | .skip, env => .ok .nx env
  | .seq a b, env => (sx cf a env).bind fun f env => match f with
    | .nx => sx cf b env
    | f => .ok f env
  | .asg g e, env => match g with
    | .n i => (ev cf e false env).bind fun t env => Res.of ((put env i t).map fun env => env) env |>.bind fun e2 _ => .ok .nx e2
    | g => (ev cf e false env).bind fun t env => match t.d with
      | some d => (Res.of (give g d env) env).bind fun e2 _ => .ok .nx e2
      | none => .bad
  | .six k i e, env => (ev cf e false env).bind fun t env => if isMu env k .append then (ev cf i true env).bind fun j env => storeAt k t j env else .bad
  | .swp k i j a b, env => (ev cf a false env).bind fun x env => (ev cf b false env).bind fun y env => if isMu env k .append then
      (ev cf i true env).bind fun p env => (storeAt k x p env).bind fun _ env => if isMu env k .append then (ev cf j true env).bind fun q env => storeAt k y q env else .bad else .bad
  | .aug k o e, env => (rdV true k env).bind fun x env => (ev cf e true env).bind fun y env => match intOf x, intOf y with
    | some i, some j => match augI o i j with
      | some n => (Res.of (put env k (.im (.int n))) env).bind fun e2 _ => .ok .nx e2
      | none => .bad
    | _, _ => .bad
  | .ex e, env => (ev cf e true env).bind fun _ env => .ok .nx env
  | .ret e, env => match e with
    | .v i => match env[i]? with
      | some (.mu false o) => .ok (.rt (.nu o)) (setW env i .un)
      | _ => (rdV false i env).bind fun t env => .ok (.rt t) env
    | e => (ev cf e false env).bind fun t env => .ok (.rt t) env
  | .ite c a b, env => (truthR (ev cf c true env)).bind fun k env => if k then sx cf a env else sx cf b env
  | .for g it b, env => (evi cf it env).bind fun xs env => forLoop g (sx cf b) xs env
  | .wh c b, env => whLoop (fun env => truthR (ev cf c true env)) (sx cf b) WF env
  | .brk, env => .ok .bk env
  | .cont, env => .ok .ct env

def okS : S → Bool
  | .skip => true
  | .seq a b => okS a && okS b
  | .asg _ e => okE e (.val false)
  | .six _ i e => okE i (.val true) && okE e (.val false)
  | .aug _ _ e => okE e (.val true)
  | .swp _ i j a b => okE i (.val true) && (okE j (.val true) && (okE a (.val false) && okE b (.val false)))
  | .ex e => okE e (.val true)
  | .ret e => okE e (.val false)
  | .ite c a b => okE c (.val true) && (okS a && okS b)
  | .for _ it b => okE it .walk && okS b
  | .wh c b => okE c (.val true) && okS b
  | .brk => true
  | .cont => true
structure Fn where
  args : Nat
  slots : Nat
  body : S
abbrev Prog := List Fn
def startE (fn : Fn) (ws : List W) : En := ws ++ List.replicate (fn.slots - fn.args) .un
def run1 (cf : CF) (fn : Fn) (ws : List W) : Option (Option (T × List W)) :=
  if ws.length = fn.args then match sx cf fn.body (startE fn ws) with
    | .ok (.rt t) env => some (some (t, env.take fn.args))
    | .ok .nx env => some (some (.im .non, env.take fn.args))
    | _ => none
  else none
def callD (P : Prog) : Nat → CF
  | 0 => fun _ _ => none
  | n + 1 => fun f ws => match P[f]? with
    | some fn => run1 (callD P n) fn ws
    | none => none
/-- the law holds of a script -/
def lawTrue (P : Prog) (n f : Nat) (ns : List Int) : Prop := ∃ ws, callD P n f [.im (.lst (ns.map .int))] = some (some (.im (.bl true), ws))
end Sw

set_option Elab.async false
set_option linter.all false
set_option maxRecDepth 100000
/-! The small language beside the model: what stands for what. -/
namespace Sw
open PySem PySem.Spec PyProof.Rows L2

def tyName : Nat → String
  | 0 => "int" | 1 => "bool" | 2 => "str" | 3 => "tuple" | _ => "list"
/-- a list of the written part -/
def KL (K : PySem.W.Frag) (a : Addr) (xs : List V) : Prop := ∃ (o : Obj) (its : Array Value) (n : Nat), K.lookup a = some o ∧ o.cls = .type "list" ∧ o.dict = none ∧ o.data = .seq its n ∧ its.size ≤ sizeLine ∧ Vals xs its.toList
/-- what is fixed: the written part, the world, the tables of the defs' code objects -/
structure Kx where
  K : PySem.W.Frag
  w : World
  tabs : List Addr
/-- a tuple whose object is known: it has no dict of its own -/
def TupX (H : Hp) (a : Addr) (vs : List V) : Prop := ∃ o : Obj, H a = some (.frz o (.tup vs)) ∧ o.dict = none
theorem TupX.sq {K : PySem.W.Frag} {H : Hp} {a : Addr} {vs : List V} (h : TupX H a vs) : SqT K H a vs := let ⟨o, h, _⟩ := h; .inl (.inr ⟨o, h⟩)
theorem TupX.at {H : Hp} {a : Addr} {vs : List V} (h : TupX H a vs) : H a ≠ none := let ⟨o, h, _⟩ := h; by rw [h]; simp
section
variable (k : Kx)
mutual
/-- data d stands at v; Z: the lists that no one changes any more -/
def Rep (Z : Addr → Prop) (H : Hp) : D → V → Prop
  | .non, v => v = .non
  | .bl b, v => v = .bl b
  | .int i, v => v = .int i
  | .str l, v => ∃ x : Str, v = .str x ∧ x.cps.toList = l
  | .tup ds, v => ∃ a vs, v = .ref a ∧ TupX H a vs ∧ RepAll Z H ds vs
  | .pr ds, v => ∃ a vs, v = .ref a ∧ H a = some (.tup vs) ∧ RepAll Z H ds vs
  | .lst ds, v => ∃ a vs, v = .ref a ∧ ((Z a ∧ Rd H a (.lst vs)) ∨ KL k.K a vs) ∧ RepAll Z H ds vs
  | .ty n, v => v = .ty (tyName n)
def RepAll (Z : Addr → Prop) (H : Hp) : List D → List V → Prop
  | [], vs => vs = []
  | d :: ds, vs => ∃ v r, vs = v :: r ∧ Rep Z H d v ∧ RepAll Z H ds r
end
/-- an object that changes -/
def ORep (Z : Addr → Prop) (H : Hp) (a : Addr) : O → Prop
  | .l ds => ∃ vs, H a = some (.lst vs) ∧ RepAll k Z H ds vs
  | .s xs => xs.Nodup ∧ H a = some (SetO k.w a (fun j => xs.contains j) xs.length)
end
variable {k : Kx}
/-- slot i holds the object at a alone -/
def OwnAt (σ : L2.St) (env : En) (i : Nat) (a : Addr) : Prop := (∃ b o, env[i]? = some (.mu b o)) ∧ σ[i]? = some (some (.ref a))
structure StOk (k : Kx) (Z : Addr → Prop) (H : Hp) (σ : L2.St) (env : En) : Prop where
  len : env.length = σ.length
  im : ∀ (i : Nat) d, env[i]? = some (.im d) → ∃ v, σ[i]? = some (some v) ∧ Rep k Z H d v
  fz : ∀ (i : Nat) ds, env[i]? = some (.fz ds) → ∃ a, σ[i]? = some (some (.ref a)) ∧ Z a ∧ Rep k Z H (.lst ds) (.ref a)
  mu : ∀ (i : Nat) b o, env[i]? = some (.mu b o) → ∃ a, σ[i]? = some (some (.ref a)) ∧ ORep k Z H a o ∧ ¬ Z a
  inj : ∀ (i j : Nat) a, OwnAt σ env i a → OwnAt σ env j a → i = j
  tab : ∀ P ∈ k.tabs, GxR.TabG H P
  zh : ∀ a, Z a → H a ≠ none
/-- the lists that are read alone are kept, tuples too -/
structure Keep (Z : Addr → Prop) (H H' : Hp) : Prop where
  tup : ∀ a xs, H a = some (.tup xs) → H' a = some (.tup xs)
  frz : ∀ a o u, H a = some (.frz o u) → H' a = some (.frz o u)
  lst : ∀ a xs, Z a → H a = some (.lst xs) → H' a = some (.lst xs)
theorem Keep.refl {Z : Addr → Prop} {H : Hp} : Keep Z H H := ⟨fun _ _ h => h, fun _ _ _ h => h, fun _ _ _ h => h⟩
theorem SqT.keep {K : PySem.W.Frag} {Z : Addr → Prop} {H H' : Hp} {a : Addr} {xs : List V} (q : Keep Z H H') (h : SqT K H a xs) : SqT K H' a xs := by
  rcases h with (h | ⟨o, h⟩) | h
  · exact .inl (.inl (q.tup _ _ h))
  · exact .inl (.inr ⟨o, q.frz _ _ _ h⟩)
  · exact .inr h
theorem zl_keep {K : PySem.W.Frag} {Z Z' : Addr → Prop} {H H' : Hp} {a : Addr} {xs : List V} (q : Keep Z H H') (hz : ∀ a, Z a → Z' a) (h : (Z a ∧ Rd H a (.lst xs)) ∨ KL K a xs) : (Z' a ∧ Rd H' a (.lst xs)) ∨ KL K a xs := by
  rcases h with ⟨z, h | ⟨o, h⟩⟩ | h
  · exact .inl ⟨hz a z, .inl (q.lst _ _ z h)⟩
  · exact .inl ⟨hz a z, .inr ⟨o, q.frz _ _ _ h⟩⟩
  · exact .inr h
theorem zl_sq {K : PySem.W.Frag} {Z : Addr → Prop} {H : Hp} {a : Addr} {xs : List V} (h : (Z a ∧ Rd H a (.lst xs)) ∨ KL K a xs) : SqL K H a xs := h.elim (fun q => .inl q.2) .inr
mutual
theorem Rep.keep {Z Z' : Addr → Prop} {H H' : Hp} (q : Keep Z H H') (hz : ∀ a, Z a → Z' a) : ∀ (d : D) {v : V}, Rep k Z H d v → Rep k Z' H' d v
  | .non, v, h => by simpa only [Rep] using h
  | .bl _, v, h => by simpa only [Rep] using h
  | .int _, v, h => by simpa only [Rep] using h
  | .str _, v, h => by simpa only [Rep] using h
  | .ty _, v, h => by simpa only [Rep] using h
  | .tup ds, v, h => by
    simp only [Rep] at h ⊢
    obtain ⟨a, vs, e, ⟨o, s, s2⟩, r⟩ := h
    exact ⟨a, vs, e, ⟨o, q.frz _ _ _ s, s2⟩, RepAll.keep q hz ds r⟩
  | .pr ds, v, h => by
    simp only [Rep] at h ⊢
    obtain ⟨a, vs, e, s, r⟩ := h
    exact ⟨a, vs, e, q.tup _ _ s, RepAll.keep q hz ds r⟩
  | .lst ds, v, h => by
    simp only [Rep] at h ⊢
    obtain ⟨a, vs, e, s, r⟩ := h
    exact ⟨a, vs, e, zl_keep q hz s, RepAll.keep q hz ds r⟩
theorem RepAll.keep {Z Z' : Addr → Prop} {H H' : Hp} (q : Keep Z H H') (hz : ∀ a, Z a → Z' a) : ∀ (ds : List D) {vs : List V}, RepAll k Z H ds vs → RepAll k Z' H' ds vs
  | [], vs, h => by simpa only [RepAll] using h
  | d :: ds, vs, h => by
    simp only [RepAll] at h ⊢
    obtain ⟨v, r, e, h1, h2⟩ := h
    exact ⟨v, r, e, Rep.keep q hz d h1, RepAll.keep q hz ds h2⟩
end
theorem ORep.keep {Z Z' : Addr → Prop} {H H' : Hp} {a : Addr} (q : Keep Z H H') (hz : ∀ a, Z a → Z' a) (ha : H' a = H a) : ∀ {o : O}, ORep k Z H a o → ORep k Z' H' a o
  | .l ds, ⟨vs, h, r⟩ => ⟨vs, ha.trans h, r.keep q hz⟩
  | .s xs, ⟨n, h⟩ => ⟨n, ha.trans h⟩

/-- slot i holds what the caller lent -/
def Lent (env : En) (i : Nat) : Prop := (∃ o, env[i]? = some (.mu true o)) ∨ ∃ ds, env[i]? = some (.fz ds)
/-- from (Z, H, env) to (Z', H', env') at the same slots; t: the slots that may be touched -/
structure Go (k : Kx) (t : List Nat) (σ : L2.St) (Z : Addr → Prop) (H : Hp) (env : En) (Z' : Addr → Prop) (H' : Hp) (env' : En) : Prop where
  zz : ∀ a, Z a → Z' a
  zn : ∀ a, Z' a → Z a ∨ H a = none ∨ ∃ i, OwnAt σ env i a
  keep : ∀ a o, H a = some o → a ∉ k.tabs → (∀ i ∈ t, ¬ OwnAt σ env i a) → H' a = some o
  there : ∀ a, H' a = none → H a = none
  unt : ∀ (i : Nat), i ∉ t → env'[i]? = env[i]?
  sub : ∀ (i : Nat) a, OwnAt σ env' i a → OwnAt σ env i a
  lent : ∀ (i : Nat), Lent env i → Lent env' i
  st : StOk k Z' H' σ env'
theorem TabG.noTup {H : Hp} {P : Addr} (h : GxR.TabG H P) {o : HO} (e : H P = some o) (hn : ∀ ps, o ≠ .tbl ps) : False := by
  obtain ⟨ps, h, _⟩ := h
  rw [h] at e
  cases e
  exact hn ps rfl
theorem StOk.noTab {Z : Addr → Prop} {H : Hp} {σ : L2.St} {env : En} (s : StOk k Z H σ env) {a : Addr} {o : HO} (e : H a = some o) (hn : ∀ ps, o ≠ .tbl ps) : a ∉ k.tabs := fun h => TabG.noTup (s.tab a h) e hn
theorem StOk.noOwn {Z : Addr → Prop} {H : Hp} {σ : L2.St} {env : En} (s : StOk k Z H σ env) {i : Nat} {a : Addr} (h : OwnAt σ env i a) : ¬ Z a ∧ ((∃ xs, H a = some (.lst xs)) ∨ ∃ S n, H a = some (SetO k.w a S n)) := by
  obtain ⟨⟨b, o, e⟩, hs⟩ := h
  obtain ⟨a', hs', r, z⟩ := s.mu i b o e
  rw [hs] at hs'
  cases hs'
  refine ⟨z, ?_⟩
  cases o with
  | l ds => obtain ⟨vs, h, _⟩ := r; exact .inl ⟨vs, h⟩
  | s xs => obtain ⟨_, h⟩ := r; exact .inr ⟨_, _, h⟩
/-- what a step keeps -/
theorem Go.keepK {t : List Nat} {σ : L2.St} {Z Z' : Addr → Prop} {H H' : Hp} {env env' : En} (s : StOk k Z H σ env) (g : Go k t σ Z H env Z' H' env') : Keep Z H H' where
  tup := fun a xs h => g.keep a _ h (s.noTab h fun _ q => by cases q) fun i _ o => by
    rcases (s.noOwn o).2 with ⟨_, q⟩ | ⟨_, _, q⟩ <;> rw [h] at q <;> cases q
  frz := fun a o u h => g.keep a _ h (s.noTab h fun _ q => by cases q) fun i _ ow => by
    rcases (s.noOwn ow).2 with ⟨_, q⟩ | ⟨_, _, q⟩ <;> rw [h] at q <;> cases q
  lst := fun a xs z h => g.keep a _ h (s.noTab h fun _ q => by cases q) fun i _ o => (s.noOwn o).1 z
theorem Go.refl {t : List Nat} {σ : L2.St} {Z : Addr → Prop} {H : Hp} {env : En} (s : StOk k Z H σ env) : Go k t σ Z H env Z H env :=
  ⟨fun _ h => h, fun _ h => .inl h, fun _ _ h _ _ => h, fun _ h => h, fun _ _ => rfl, fun _ _ h => h, fun _ h => h, s⟩
theorem Go.trans {t u : List Nat} {σ : L2.St} {Z Z1 Z2 : Addr → Prop} {H H1 H2 : Hp} {env env1 env2 : En} (a : Go k t σ Z H env Z1 H1 env1) (b : Go k u σ Z1 H1 env1 Z2 H2 env2) : Go k (t ++ u) σ Z H env Z2 H2 env2 where
  zz := fun x h => b.zz x (a.zz x h)
  zn := fun x h => by
    rcases b.zn x h with q | q | ⟨i, q⟩
    · exact a.zn x q
    · exact .inr (.inl (a.there x q))
    · exact .inr (.inr ⟨i, a.sub i x q⟩)
  keep := fun x o h ht hn => b.keep x o (a.keep x o h ht fun i hi => hn i (List.mem_append_left _ hi)) ht fun i hi z => hn i (List.mem_append_right _ hi) (a.sub i x z)
  there := fun x h => a.there x (b.there x h)
  unt := fun i hi => (b.unt i fun q => hi (List.mem_append_right _ q)).trans (a.unt i fun q => hi (List.mem_append_left _ q))
  sub := fun i x h => a.sub i x (b.sub i x h)
  lent := fun i h => b.lent i (a.lent i h)
  st := b.st
theorem Go.mono {t u : List Nat} {σ : L2.St} {Z Z1 : Addr → Prop} {H H1 : Hp} {env env1 : En} (a : Go k t σ Z H env Z1 H1 env1) (h : ∀ i ∈ t, i ∈ u) : Go k u σ Z H env Z1 H1 env1 :=
  ⟨a.zz, a.zn, fun x o e ht hn => a.keep x o e ht fun i hi => hn i (h i hi), a.there, fun i hi => a.unt i fun q => hi (h i q), a.sub, a.lent, a.st⟩
/-- a new object -/
theorem StOk.keepK {Z Z' : Addr → Prop} {H H' : Hp} {σ : L2.St} {env : En} (s : StOk k Z H σ env) (q : Keep Z H H') (hz : ∀ a, Z a → Z' a) (ho : ∀ i a, OwnAt σ env i a → H' a = H a ∧ ¬ Z' a) (ht : ∀ P ∈ k.tabs, GxR.TabG H' P) (hh : ∀ a, Z' a → H' a ≠ none) : StOk k Z' H' σ env where
  len := s.len
  im := fun i d e => let ⟨v, h, r⟩ := s.im i d e; ⟨v, h, r.keep q hz⟩
  fz := fun i ds e => let ⟨v, h, z, r⟩ := s.fz i ds e; ⟨v, h, hz v z, r.keep q hz⟩
  mu := fun i b o e => let ⟨a, h, r, _⟩ := s.mu i b o e; ⟨a, h, r.keep q hz (ho i a ⟨⟨b, o, e⟩, h⟩).1, (ho i a ⟨⟨b, o, e⟩, h⟩).2⟩
  inj := s.inj
  tab := ht
  zh := hh
theorem Keep.new {Z : Addr → Prop} {H : Hp} {p : Addr} {o : HO} (h : H p = none) : Keep Z H (upd H p o) := by
  have ne : ∀ a u, H a = some u → upd H p o a = some u := fun a u e => by rw [upd_ne (ne_of_none e h)]; exact e
  exact ⟨fun a _ e => ne a _ e, fun a _ _ e => ne a _ e, fun a _ _ e => ne a _ e⟩
theorem StOk.new {Z : Addr → Prop} {H : Hp} {σ : L2.St} {env : En} {p : Addr} {o : HO} (s : StOk k Z H σ env) (h : H p = none) : StOk k Z (upd H p o) σ env := by
  refine s.keepK (Keep.new h) (fun _ z => z) (fun i a q => ?_) (fun P hP => ?_) ?_
  · obtain ⟨hz, q⟩ := s.noOwn q
    refine ⟨upd_ne fun e => ?_, hz⟩
    rw [e] at q
    rcases q with ⟨_, q⟩ | ⟨_, _, q⟩ <;> rw [h] at q <;> cases q
  · obtain ⟨ps, e, t⟩ := s.tab P hP
    exact ⟨ps, by rw [upd_ne (ne_of_none e h)]; exact e, t⟩
  · intro a z
    have ne : a ≠ p := fun e => s.zh a z (by rw [e]; exact h)
    rw [upd_ne ne]
    exact s.zh a z
theorem Go.new {t : List Nat} {σ : L2.St} {Z Z1 : Addr → Prop} {H H1 : Hp} {env env1 : En} {p : Addr} {o : HO} (a : Go k t σ Z H env Z1 H1 env1) (h : H1 p = none) : Go k t σ Z H env Z1 (upd H1 p o) env1 :=
  ⟨a.zz, a.zn, fun x u e ht hn => by
    have q := a.keep x u e ht hn
    rw [upd_ne (ne_of_none q h)]; exact q, fun x e => a.there x (by
    by_cases hx : x = p
    · subst hx; exact h
    · rw [upd_ne hx] at e; exact e), a.unt, a.sub, a.lent, a.st.new h⟩
/-- a free object is frozen -/
theorem StOk.freeze {Z : Addr → Prop} {H : Hp} {σ : L2.St} {env : En} {p : Addr} (s : StOk k Z H σ env) (hn : ∀ i, ¬ OwnAt σ env i p) (hp : H p ≠ none) : StOk k (fun a => Z a ∨ a = p) H σ env := by
  refine s.keepK .refl (fun _ z => .inl z) (fun i a q => ⟨rfl, fun z => ?_⟩) s.tab fun a z => ?_
  · rcases z with z | z
    · exact (s.noOwn q).1 z
    · subst z; exact hn i q
  · rcases z with z | z
    · exact s.zh a z
    · subst z; exact hp
/-- a value at hand; H0: the heap ahead of its reckoning -/
def TRep (k : Kx) (H0 : Hp) (Z : Addr → Prop) (H : Hp) (σ : L2.St) (env : En) : T → V → Prop
  | .im d, v => Rep k Z H d v
  | .nu o, v => ∃ a, v = .ref a ∧ ORep k Z H a o ∧ ¬ Z a ∧ H0 a = none ∧ ∀ i, ¬ OwnAt σ env i a
/-- a value that is looked at; xs: the slots whose objects it may be -/
def VRep (k : Kx) (Z : Addr → Prop) (H : Hp) (σ : L2.St) (env : En) (xs : List Nat) : T → V → Prop
  | .im d, v => Rep k Z H d v
  | .nu o, v => ∃ a, v = .ref a ∧ ORep k Z H a o ∧ ¬ Z a ∧ ∀ i, OwnAt σ env i a → i ∈ xs
theorem TRep.view {H0 : Hp} {Z : Addr → Prop} {H : Hp} {σ : L2.St} {env : En} {xs : List Nat} : ∀ {t : T} {v : V}, TRep k H0 Z H σ env t v → VRep k Z H σ env xs t v
  | .im d, v, h => h
  | .nu o, v, ⟨a, e, r, z, _, n⟩ => ⟨a, e, r, z, fun i q => (n i q).elim⟩
theorem TRep.back {H0 H1 : Hp} {Z : Addr → Prop} {H : Hp} {σ : L2.St} {env : En} (h : ∀ a, H1 a = none → H0 a = none) : ∀ {t : T} {v : V}, TRep k H1 Z H σ env t v → TRep k H0 Z H σ env t v
  | .im d, v, q => q
  | .nu o, v, ⟨a, e, r, z, f, n⟩ => ⟨a, e, r, z, h a f, n⟩
/-- what stays of a value that is looked at while another one is reckoned -/
theorem VRep.go {t xs : List Nat} {σ : L2.St} {Z Z1 : Addr → Prop} {H H1 : Hp} {env env1 : En} (s : StOk k Z H σ env) (g : Go k t σ Z H env Z1 H1 env1) (hd : ∀ i ∈ xs, i ∉ t) : ∀ {x : T} {v : V}, VRep k Z H σ env xs x v → VRep k Z1 H1 σ env1 xs x v
  | .im d, v, h => Rep.keep (g.keepK s) g.zz d h
  | .nu o, v, ⟨a, e, r, z, n⟩ => by
    have hH : ∃ u, H a = some u ∧ ∀ ps, u ≠ .tbl ps := by
      cases o with
      | l ds => obtain ⟨vs, h, _⟩ := r; exact ⟨_, h, fun _ q => by cases q⟩
      | s xs => obtain ⟨_, h⟩ := r; exact ⟨_, h, fun _ q => by cases q⟩
    obtain ⟨u, hu, hnt⟩ := hH
    have nt : a ∉ k.tabs := s.noTab hu hnt
    have kp : H1 a = some u := g.keep a u hu nt fun i hi ow => hd i (n i ow) hi
    refine ⟨a, e, r.keep (g.keepK s) g.zz (kp.trans hu.symm), fun z1 => ?_, fun i ow => n i (g.sub i a ow)⟩
    rcases g.zn a z1 with q | q | ⟨i, q⟩
    · exact z q
    · rw [hu] at q; cases q
    · -- an owned object that became frozen: its slot was touched
      obtain ⟨⟨b, o', e1⟩, e2⟩ := q
      have hi : i ∉ t := hd i (n i ⟨⟨b, o', e1⟩, e2⟩)
      have e3 : env1[i]? = some (.mu b o') := (g.unt i hi).trans e1
      obtain ⟨a', h1, _, h3⟩ := g.st.mu i b o' e3
      rw [e2] at h1
      cases h1
      exact h3 z1
theorem TRep.go {H0 : Hp} {t : List Nat} {σ : L2.St} {Z Z1 : Addr → Prop} {H H1 : Hp} {env env1 : En} (s : StOk k Z H σ env) (g : Go k t σ Z H env Z1 H1 env1) : ∀ {x : T} {v : V}, TRep k H0 Z H σ env x v → TRep k H0 Z1 H1 σ env1 x v
  | .im d, v, h => Rep.keep (g.keepK s) g.zz d h
  | .nu o, v, h => by
    obtain ⟨a0, e0, _, _, f, _⟩ := id h
    obtain ⟨a, e, r, z, n⟩ := VRep.go (xs := []) s g (fun i hi => absurd hi (by simp)) (TRep.view h)
    rw [e0] at e
    cases e
    exact ⟨a0, e0, r, z, f, fun i ow => absurd (n i ow) (by simp)⟩
/-- kept: a new list is frozen -/
theorem TRep.freeze {t : List Nat} {σ : L2.St} {Z Z1 : Addr → Prop} {H H1 : Hp} {env env1 : En} (g : Go k t σ Z H env Z1 H1 env1) {x : T} {v : V} {d : D} (h : TRep k H Z1 H1 σ env1 x v) (e : x.d = some d) : ∃ Z2, Go k t σ Z H env Z2 H1 env1 ∧ Rep k Z2 H1 d v ∧ ∀ a, Z1 a → Z2 a := by
  cases x with
  | im d' =>
    cases e
    exact ⟨Z1, g, h, fun _ z => z⟩
  | nu o =>
    cases o with
    | s xs => cases e
    | l ds =>
      cases e
      obtain ⟨a, rfl, ⟨vs, ha, r⟩, z, f, n⟩ := h
      refine ⟨fun b => Z1 b ∨ b = a, ⟨fun b q => .inl (g.zz b q), fun b q => ?_, g.keep, g.there, g.unt, g.sub, g.lent, g.st.freeze n (by rw [ha]; simp)⟩, ?_, fun b q => .inl q⟩
      · rcases q with q | q
        · exact g.zn b q
        · subst q; exact .inr (.inl f)
      · simp only [Rep]
        exact ⟨a, vs, rfl, .inl ⟨.inr rfl, .inl ha⟩, RepAll.keep .refl (fun b q => .inl q) ds r⟩
end Sw

set_option Elab.async false
set_option linter.all false
set_option maxRecDepth 100000
/-! Expressions: each form of the small language beside its form in the model. -/
namespace Sw
open PySem PySem.Spec PyProof.Rows L2

theorem Res.bind_ok {α β : Type} {r : Res α} {f : α → En → Res β} {b : β} {e : En} (h : r.bind f = .ok b e) : ∃ a e1, r = .ok a e1 ∧ f a e1 = .ok b e := by
  cases r with
  | ok a e1 => exact ⟨a, e1, rfl, h⟩
  | ex k e1 => cases h
  | bad => cases h
theorem Res.of_ok {α : Type} {o : Option α} {e e' : En} {a : α} (h : Res.of o e = .ok a e') : o = some a ∧ e' = e := by
  cases o with
  | none => cases h
  | some x => cases h; exact ⟨rfl, rfl⟩
theorem asT_post {vw : Bool} {r : Res T} : asT (post (.val vw) r) = r := by cases r <;> rfl
theorem asOi_post {r : Res T} : asOi (post .bound r) = r.bind fun t env => Res.of ((intOf t).map some) env := by
  cases r with
  | ok t e =>
    show asOi (Res.of _ _) = Res.of _ _
    cases intOf t <;> rfl
  | _ => rfl
theorem asDs_post {r : Res T} : asDs (post .walk r) = r.bind fun t env => Res.of (seqOf t) env := by
  cases r with
  | ok t e =>
    show asDs (Res.of _ _) = Res.of _ _
    cases seqOf t <;> rfl
  | _ => rfl
section
variable {cf : CF} {vw : Bool} {env : En}
theorem ev_c {d : D} : ev cf (.c d) vw env = .ok (.im d) env := rfl
theorem ev_v {i : Nat} : ev cf (.v i) vw env = rdV vw i env := asT_post
theorem ev_op {o : BOp} {a b : E} : ev cf (.op o a b) vw env = (ev cf a true env).bind fun x env => (ev cf b true env).bind fun y env => Res.of (binop o x y) env := asT_post
theorem ev_cmp {o : COp} {a b : E} : ev cf (.cmp o a b) vw env = (ev cf a true env).bind fun x env => (ev cf b true env).bind fun y env => Res.of ((cmpop o x y).map fun b => .im (.bl b)) env := asT_post
theorem ev_chain {o p : COp} {a b c : E} : ev cf (.chain o p a b c) vw env = (ev cf a true env).bind fun x env => (ev cf b true env).bind fun y env => (Res.of (cmpop o x y) env).bind fun k env =>
      if k then (ev cf c true env).bind fun z env => Res.of ((cmpop p y z).map fun b => .im (.bl b)) env else .ok (.im (.bl false)) env := asT_post
theorem ev_neg {a : E} : ev cf (.neg a) vw env = (ev cf a true env).bind fun x env => Res.of ((intOf x).map fun i => .im (.int (-i))) env := asT_post
theorem ev_no {a : E} : ev cf (.no a) vw env = (truthR (ev cf a true env)).bind fun b env => .ok (.im (.bl (!b))) env := asT_post
theorem ev_an {a b : E} : ev cf (.an a b) vw env = (ev cf a vw env).bind fun x env => (Res.of (truth x) env).bind fun k env => if k then ev cf b vw env else .ok x env := asT_post
theorem ev_oo {a b : E} : ev cf (.oo a b) vw env = (ev cf a vw env).bind fun x env => (Res.of (truth x) env).bind fun k env => if k then .ok x env else ev cf b vw env := asT_post
theorem ev_ite {c a b : E} : ev cf (.ite c a b) vw env = (truthR (ev cf c true env)).bind fun k env => if k then ev cf a vw env else ev cf b vw env := asT_post
theorem ev_tup {es : E} : ev cf (.tup es) vw env = (evs cf es env).bind fun ds env => if ds.length ≤ SL then .ok (.im (.tup ds)) env else .bad := asT_post
theorem ev_lst {es : E} : ev cf (.lst es) vw env = (evs cf es env).bind fun ds env => if ds.length ≤ SL then .ok (.nu (.l ds)) env else .bad := asT_post
theorem ev_ix {a i : E} : ev cf (.ix a i) vw env = (ev cf a true env).bind fun x env => (ev cf i true env).bind fun y env => Res.of ((indexT x y).map .im) env := asT_post
theorem ev_sl {a lo hi : E} : ev cf (.sl a lo hi) vw env = (ev cf a true env).bind fun x env => (evo cf lo env).bind fun l env => (evo cf hi env).bind fun h env => Res.of (sliceT x l h) env := asT_post
theorem ev_rv {a : E} : ev cf (.rv a) vw env = (ev cf a true env).bind fun x env => Res.of (revT x) env := asT_post
theorem ev_call {f : Nat} {es : E} : ev cf (.call f es) vw env = (eva cf es env).bind fun as env => doCall cf f as env := asT_post
theorem ev_bi {b : BI} {es : E} (h : isWalk b = false) : ev cf (.bi b es) vw env = (evt cf es env).bind fun as env => Res.of (bifn b as) env := by
  unfold ev
  rw [ev1, if_neg (by rw [h]; exact Bool.false_ne_true)]
  exact asT_post
theorem ev_mt {m : MT} {k : Nat} {es : E} : ev cf (.mt m (.v k) es) vw env = if isMu env k m then (evs cf es env).bind fun ds env => mtSlot m k ds env
      else (rdV true k env).bind fun x env => (evs cf es env).bind fun ds env => Res.of (mtV m x ds) env := asT_post
theorem ev_mtV {m : MT} {a es : E} (h : slotOf a = none) : ev cf (.mt m a es) vw env = (ev cf a true env).bind fun x env => (evs cf es env).bind fun ds env => Res.of (mtV m x ds) env := by
  unfold ev
  rw [ev1, h]
  exact asT_post
theorem ev_lc {k : LK} {own : List Nat} {g : G} {it ifs e : E} : ev cf (.lc k own g it ifs e) vw env = (evi cf it env).bind fun xs env0 =>
      (lcLoop k own g (fun env => if isNil ifs then .ok true env else truthR (ev cf ifs true env)) (fun env => ev cf e false env) xs [] env0).bind fun t env1 => .ok t (unwipeE env0 env1 own) := asT_post
theorem ev_col {k : LK} {it : E} : ev cf (.col k it) vw env = (evi cf it env).bind fun xs env => Res.of (colT k xs) env := asT_post
theorem evs_nil : evs cf .nil env = .ok [] env := rfl
theorem evs_cons {a b : E} : evs cf (.cons a b) env = (ev cf a false env).bind fun x env => (evs cf b env).bind fun ds env => Res.of (x.d.map (· :: ds)) env := by
  show asDs (Res.bind _ _) = _
  show asDs ((ev cf a false env).bind fun x env => (evs cf b env).bind fun ds env => Res.of (x.d.map fun d => .ds (d :: ds)) env) = _
  cases ev cf a false env with
  | ok x e =>
    show asDs ((evs cf b e).bind fun ds env => Res.of (x.d.map fun d => .ds (d :: ds)) env) = (evs cf b e).bind fun ds env => Res.of (x.d.map (· :: ds)) env
    cases evs cf b e with
    | ok ds e2 => cases x.d <;> rfl
    | _ => rfl
  | _ => rfl
theorem evt_nil : evt cf .nil env = .ok [] env := rfl
theorem evt_cons {a b : E} : evt cf (.cons a b) env = (ev cf a true env).bind fun x env => (evt cf b env).bind fun ts env => .ok (x :: ts) env := by
  show asTs ((ev cf a true env).bind fun x env => (evt cf b env).bind fun ts env => .ok (.ts (x :: ts)) env) = _
  cases ev cf a true env with
  | ok x e =>
    show asTs ((evt cf b e).bind fun ts env => .ok (.ts (x :: ts)) env) = (evt cf b e).bind fun ts env => .ok (x :: ts) env
    cases evt cf b e <;> rfl
  | _ => rfl
end

/-! ### readings -/
abbrev kx (X : Cx) (tabs : List Addr) : Kx := ⟨X.K, X.w, tabs⟩
def XRep (k : Kx) (H0 : Hp) (Z : Addr → Prop) (H : Hp) (σ : L2.St) (env : En) (vw : Bool) (xs : List Nat) (t : T) (v : V) : Prop := if vw = true then VRep k Z H σ env xs t v else TRep k H0 Z H σ env t v
def RdE (k : Kx) (cf : CF) (e : E) (vw : Bool) : TE := fun σ H Q => ∃ Z env t env', StOk k Z H σ env ∧ ev cf e vw env = .ok t env' ∧
  ∀ v Z' H', Go k (tou e (.val vw)) σ Z H env Z' H' env' → XRep k H Z' H' σ env' vw (vws e) t v → Q v H'
structure EM (X : Cx) (tabs : List Addr) (cf : CF) (e : Expr) (e' : E) : Prop where
  run : ∀ vw, okE e' (.val vw) = true → PE X e (RdE (kx X tabs) cf e' vw)
theorem PE.weak {X : Cx} {e : Expr} {t t' : TE} (h : PE X e t) (hw : ∀ σ H Q, t' σ H Q → t σ H Q) : PE X e t' := ⟨fun pins s σ H Q I q => h.run pins s σ H Q I (hw σ H Q q)⟩
theorem XRep.im {k : Kx} {H0 : Hp} {Z : Addr → Prop} {H : Hp} {σ : L2.St} {env : En} {vw : Bool} {xs : List Nat} {d : D} {v : V} (h : Rep k Z H d v) : XRep k H0 Z H σ env vw xs (.im d) v := by
  unfold XRep
  split
  · exact h
  · exact h
theorem XRep.nu {k : Kx} {H0 : Hp} {Z : Addr → Prop} {H : Hp} {σ : L2.St} {env : En} {vw : Bool} {xs : List Nat} {t : T} {v : V} (h : TRep k H0 Z H σ env t v) : XRep k H0 Z H σ env vw xs t v := by
  unfold XRep
  split
  · exact h.view
  · exact h
theorem XRep.v {k : Kx} {H0 : Hp} {Z : Addr → Prop} {H : Hp} {σ : L2.St} {env : En} {xs : List Nat} {t : T} {v : V} (h : XRep k H0 Z H σ env true xs t v) : VRep k Z H σ env xs t v := h
theorem XRep.t {k : Kx} {H0 : Hp} {Z : Addr → Prop} {H : Hp} {σ : L2.St} {env : En} {xs : List Nat} {t : T} {v : V} (h : XRep k H0 Z H σ env false xs t v) : TRep k H0 Z H σ env t v := h
/-- a new object as a value at hand -/
theorem TRep.made {k : Kx} {t : List Nat} {σ : L2.St} {Z Z1 : Addr → Prop} {H H1 : Hp} {env env1 : En} {p : Addr} {ho : HO} {o : O} (s : StOk k Z H σ env) (g : Go k t σ Z H env Z1 H1 env1) (h : H1 p = none) (r : ORep k Z1 (upd H1 p ho) p o) : TRep k H Z1 (upd H1 p ho) σ env1 (.nu o) (.ref p) := by
  refine ⟨p, rfl, r, fun z => g.st.zh p z h, g.there p h, fun i q => ?_⟩
  obtain ⟨_, q⟩ := g.st.noOwn q
  rcases q with ⟨_, q⟩ | ⟨_, _, q⟩ <;> rw [h] at q <;> cases q
end Sw

set_option Elab.async false
set_option linter.all false
set_option maxRecDepth 100000
/-! Operators. -/
namespace Sw
open PySem PySem.Spec PyProof.Rows L2

/-! ### what a value that is looked at is -/
section
variable {k : Kx} {Z : Addr → Prop} {H : Hp} {σ : L2.St} {env : En} {xs : List Nat} {t : T} {v : V}
theorem T.d_cases {t : T} {d : D} (h : t.d = some d) : t = .im d ∨ ∃ ds, t = .nu (.l ds) ∧ d = .lst ds := by
  cases t with
  | im d' => cases h; exact .inl rfl
  | nu o => cases o with
    | l ds => cases h; exact .inr ⟨ds, rfl, rfl⟩
    | s _ => cases h
theorem VRep.rep (h : VRep k Z H σ env xs t v) {d : D} (e : t.d = some d) (hn : ∀ ds, d ≠ .lst ds) : Rep k Z H d v := by
  rcases T.d_cases e with rfl | ⟨ds, rfl, rfl⟩
  · exact h
  · exact absurd rfl (hn ds)
theorem VRep.int (h : VRep k Z H σ env xs t v) {i : Int} (e : t.d = some (.int i)) : v = .int i := by
  have := h.rep e (fun _ q => by cases q)
  simpa only [Rep] using this
theorem VRep.bl (h : VRep k Z H σ env xs t v) {i : Bool} (e : t.d = some (.bl i)) : v = .bl i := by
  have := h.rep e (fun _ q => by cases q)
  simpa only [Rep] using this
theorem VRep.tup (h : VRep k Z H σ env xs t v) {ds : List D} (e : t.d = some (.tup ds)) : ∃ a vs, v = .ref a ∧ TupX H a vs ∧ RepAll k Z H ds vs := by
  have := h.rep e (fun _ q => by cases q)
  simpa only [Rep] using this
theorem VRep.lst (h : VRep k Z H σ env xs t v) {ds : List D} (e : t.d = some (.lst ds)) : ∃ a vs, v = .ref a ∧ SqL k.K H a vs ∧ RepAll k Z H ds vs := by
  rcases T.d_cases e with rfl | ⟨ds', rfl, e'⟩
  · have h : Rep k Z H (.lst ds) v := h
    simp only [Rep] at h
    obtain ⟨a, vs, e, s, r⟩ := h
    exact ⟨a, vs, e, zl_sq s, r⟩
  · cases e'
    obtain ⟨a, e, ⟨vs, ha, r⟩, _⟩ := h
    exact ⟨a, vs, e, .inl (.inl ha), r⟩
theorem RepAll.len : ∀ (ds : List D) {vs : List V}, RepAll k Z H ds vs → ds.length = vs.length
  | [], vs, h => by simp only [RepAll] at h; subst h; rfl
  | d :: ds, vs, h => by
    simp only [RepAll] at h
    obtain ⟨v, r, rfl, _, q⟩ := h
    simp [RepAll.len ds q]
theorem RepAll.append : ∀ (ds es : List D) {vs us : List V}, RepAll k Z H ds vs → RepAll k Z H es us → RepAll k Z H (ds ++ es) (vs ++ us)
  | [], es, vs, us, h, q => by simp only [RepAll] at h; subst h; exact q
  | d :: ds, es, vs, us, h, q => by
    simp only [RepAll] at h
    obtain ⟨v, r, rfl, h1, h2⟩ := h
    show RepAll k Z H (d :: (ds ++ es)) (v :: (r ++ us))
    simp only [RepAll]
    exact ⟨v, _, rfl, h1, RepAll.append ds es h2 q⟩
theorem RepAll.get : ∀ (ds : List D) {vs : List V} {i : Nat} {d : D}, RepAll k Z H ds vs → ds[i]? = some d → ∃ v, vs[i]? = some v ∧ Rep k Z H d v
  | [], vs, i, d, _, e => by simp at e
  | x :: ds, vs, 0, d, h, e => by
    simp only [RepAll] at h
    obtain ⟨v, r, rfl, h1, h2⟩ := h
    simp at e
    subst e
    exact ⟨v, rfl, h1⟩
  | x :: ds, vs, i + 1, d, h, e => by
    simp only [RepAll] at h
    obtain ⟨v, r, rfl, h1, h2⟩ := h
    obtain ⟨u, q1, q2⟩ := RepAll.get ds h2 (i := i) (d := d) (by simpa using e)
    exact ⟨u, by simpa using q1, q2⟩
theorem RepAll.take : ∀ (ds : List D) {vs : List V} (n : Nat), RepAll k Z H ds vs → RepAll k Z H (ds.take n) (vs.take n)
  | ds, vs, 0, _ => by simp [RepAll]
  | [], vs, n + 1, h => by simp only [RepAll] at h; subst h; simp [RepAll]
  | d :: ds, vs, n + 1, h => by
    simp only [RepAll] at h
    obtain ⟨v, r, rfl, h1, h2⟩ := h
    simp only [List.take_succ_cons, RepAll]
    exact ⟨v, _, rfl, h1, RepAll.take ds n h2⟩
theorem RepAll.drop : ∀ (ds : List D) {vs : List V} (n : Nat), RepAll k Z H ds vs → RepAll k Z H (ds.drop n) (vs.drop n)
  | ds, vs, 0, h => by simpa using h
  | [], vs, n + 1, h => by simp only [RepAll] at h; subst h; simp [RepAll]
  | d :: ds, vs, n + 1, h => by
    simp only [RepAll] at h
    obtain ⟨v, r, rfl, h1, h2⟩ := h
    simpa using RepAll.drop ds n h2
theorem RepAll.reverse (ds : List D) {vs : List V} (h : RepAll k Z H ds vs) : RepAll k Z H ds.reverse vs.reverse := by
  induction ds generalizing vs with
  | nil => simp only [RepAll] at h; subst h; simp [RepAll]
  | cons d ds ih =>
    simp only [RepAll] at h
    obtain ⟨v, r, rfl, h1, h2⟩ := h
    rw [List.reverse_cons, List.reverse_cons]
    refine RepAll.append _ _ (ih h2) ?_
    simp only [RepAll]
    exact ⟨v, [], rfl, h1, rfl⟩
theorem RepAll.rep (n : Nat) {d : D} {v : V} (h : Rep k Z H d v) : RepAll k Z H (List.replicate n d) (List.replicate n v) := by
  induction n with
  | zero => simp [RepAll]
  | succ n ih =>
    rw [List.replicate_succ, List.replicate_succ]
    simp only [RepAll]
    exact ⟨v, _, rfl, h, ih⟩
theorem RepAll.set : ∀ (ds : List D) {vs : List V} (n : Nat) {d : D} {v : V}, RepAll k Z H ds vs → Rep k Z H d v → RepAll k Z H (ds.set n d) (vs.set n v)
  | [], vs, n, d, v, h, _ => by simp only [RepAll] at h; subst h; simp [RepAll]
  | x :: ds, vs, 0, d, v, h, q => by
    simp only [RepAll] at h
    obtain ⟨u, r, rfl, h1, h2⟩ := h
    simp only [List.set_cons_zero, RepAll]
    exact ⟨v, r, rfl, q, h2⟩
  | x :: ds, vs, n + 1, d, v, h, q => by
    simp only [RepAll] at h
    obtain ⟨u, r, rfl, h1, h2⟩ := h
    simp only [List.set_cons_succ, RepAll]
    exact ⟨u, _, rfl, h1, RepAll.set ds n h2 q⟩
theorem RepAll.eraseIdx : ∀ (ds : List D) {vs : List V} (n : Nat), RepAll k Z H ds vs → RepAll k Z H (ds.eraseIdx n) (vs.eraseIdx n)
  | [], vs, n, h => by simp only [RepAll] at h; subst h; simp [RepAll]
  | x :: ds, vs, 0, h => by
    simp only [RepAll] at h
    obtain ⟨u, r, rfl, h1, h2⟩ := h
    simpa using h2
  | x :: ds, vs, n + 1, h => by
    simp only [RepAll] at h
    obtain ⟨u, r, rfl, h1, h2⟩ := h
    simp only [List.eraseIdx_cons_succ, RepAll]
    exact ⟨u, _, rfl, h1, RepAll.eraseIdx ds n h2⟩
end
theorem sl_eq : SL = sizeLine := by decide

/-! ### a binary operator -/
/-- what the operator's rule r must serve -/
def Serves (k : Kx) (r : R2) (f : T → T → Option T) : Prop := ∀ (σ : L2.St) (Z Z2 : Addr → Prop) (H H2 : Hp) (env env2 : En) (tt xs ys : List Nat) (x y t : T) (v w : V) (Q : VK), StOk k Z H σ env → Go k tt σ Z H env Z2 H2 env2 →
  VRep k Z2 H2 σ env2 xs x v → VRep k Z2 H2 σ env2 ys y w → f x y = some t → (∀ v' H', Go k tt σ Z H env Z2 H' env2 → TRep k H Z2 H' σ env2 t v' → Q v' H') → r v w H2 Q
theorem disj_mem {xs ys : List Nat} (h : disj xs ys = true) : ∀ i ∈ xs, i ∉ ys := fun i hi hy => by
  have := List.all_eq_true.mp h i hi
  simp at this
  exact this hy
section
variable {X : Cx} {tabs : List Addr} {cf : CF} {a b : Expr} {a' b' : E} {pos : Pos}
theorem em_bin {op : Operator} {o : BOp} {r : R2} (ho : OpR X (binaryOp op) r) (hs : Serves (kx X tabs) r (binop o)) (ha : EM X tabs cf a a') (hb : EM X tabs cf b b') : EM X tabs cf (.BinOp a op b pos) (.op o a' b') := by
  refine ⟨fun vw ok => ?_⟩
  simp only [okE, Bool.and_eq_true] at ok
  obtain ⟨ok1, ok2, ok3⟩ := ok
  refine Sw.PE.weak (pe_op ho (ha.run true ok1) (hb.run true ok2)) fun σ H Q h => ?_
  obtain ⟨Z, env, t, env', st, he, q⟩ := h
  rw [ev_op] at he
  obtain ⟨x, env1, h1, he⟩ := Res.bind_ok he
  obtain ⟨y, env2, h2, he⟩ := Res.bind_ok he
  obtain ⟨hf, rfl⟩ := Res.of_ok he
  refine ⟨Z, env, x, env1, st, h1, fun v Z1 H1 g1 r1 => ⟨Z1, env1, y, _, g1.st, h2, fun w Z2 H2 g2 r2 => ?_⟩⟩
  have r1' := VRep.go g1.st g2 (disj_mem ok3) r1.v
  exact hs σ Z Z2 H H2 env _ _ _ _ x y t v w Q st (g1.trans g2) r1' r2.v hf fun v' H' g r => q v' Z2 H' g (.nu r)
theorem Rep.int {k : Kx} {Z : Addr → Prop} {H : Hp} {i : Int} : Rep k Z H (.int i) (.int i) := by simp only [Rep]
theorem Rep.bl {k : Kx} {Z : Addr → Prop} {H : Hp} {i : Bool} : Rep k Z H (.bl i) (.bl i) := by simp only [Rep]
theorem TRep.int {k : Kx} {H0 : Hp} {Z : Addr → Prop} {H : Hp} {σ : L2.St} {env : En} {i : Int} : TRep k H0 Z H σ env (.im (.int i)) (.int i) := rfl
theorem TRep.bl {k : Kx} {H0 : Hp} {Z : Addr → Prop} {H : Hp} {σ : L2.St} {env : En} {i : Bool} : TRep k H0 Z H σ env (.im (.bl i)) (.bl i) := rfl
/-- an int operator -/
theorem serves_int {k : Kx} {C : Int → Int → Prop} {g : Int → Int → Int} {f : T → T → Option T} (h : ∀ x y t, f x y = some t → ∃ i j, x.d = some (.int i) ∧ y.d = some (.int j) ∧ C i j ∧ t = .im (.int (g i j))) : Serves k (rI C fun i j => .int (g i j)) f := by
  intro σ Z Z2 H H2 env env2 tt xs ys x y t v w Q st go rx ry e q
  obtain ⟨i, j, ex, ey, c, rfl⟩ := h x y t e
  exact ⟨i, j, rx.int ex, ry.int ey, c, q _ _ go TRep.int⟩
theorem binop_inv {o : BOp} {x y t : T} (h : binD o x y = some t) : ∃ a b, x.d = some a ∧ y.d = some b ∧ binD o (.im a) (.im b) = some t := by
  unfold binD d2 at h
  cases hx : x.d with
  | none => rw [hx] at h; cases h
  | some a =>
    cases hy : y.d with
    | none => rw [hx, hy] at h; cases h
    | some b =>
      rw [hx, hy] at h
      exact ⟨a, b, rfl, rfl, h⟩
theorem serves_sub {k : Kx} : Serves k (rI0 fun i j => .int (i - j)) (binop .sub) := by
  intro σ Z Z2 H H2 env env2 tt xs ys x y t v w Q st go rx ry e q
  obtain ⟨a, b, ex, ey, e⟩ := binop_inv e
  cases a <;> cases b <;> try (cases e; done)
  cases e
  exact ⟨_, _, rx.int ex, ry.int ey, q _ _ go TRep.int⟩
theorem em_sub (ha : EM X tabs cf a a') (hb : EM X tabs cf b b') : EM X tabs cf (.BinOp a .Sub b pos) (.op .sub a' b') := em_bin op_sub serves_sub ha hb
theorem em_mod (ha : EM X tabs cf a a') (hb : EM X tabs cf b b') : EM X tabs cf (.BinOp a .Mod b pos) (.op .mod a' b') := by
  refine em_bin op_mod (serves_int fun x y t e => ?_) ha hb
  obtain ⟨a, b, ex, ey, e⟩ := binop_inv e
  cases a <;> cases b <;> try (cases e; done)
  rename_i i j
  have e' : (if 0 < j then some (T.im (.int (i % j))) else none) = some t := e
  split at e'
  · cases e'
    exact ⟨i, j, ex, ey, ‹_›, rfl⟩
  · cases e'
theorem em_fdiv (ha : EM X tabs cf a a') (hb : EM X tabs cf b b') : EM X tabs cf (.BinOp a .FloorDiv b pos) (.op .fdiv a' b') := by
  refine em_bin op_fdivW (serves_int fun x y t e => ?_) ha hb
  obtain ⟨a, b, ex, ey, e⟩ := binop_inv e
  cases a <;> cases b <;> try (cases e; done)
  rename_i i j
  have e' : (if 0 < j ∧ j.natAbs < 2 ^ 9000 then some (T.im (.int (i / j))) else none) = some t := e
  split at e'
  · rename_i c
    cases e'
    exact ⟨i, j, ex, ey, wide_div c.1 c.2 (by decide) (Nat.le_refl _), rfl⟩
  · cases e'
theorem em_pow (ha : EM X tabs cf a a') (hb : EM X tabs cf b b') : EM X tabs cf (.BinOp a .Pow b pos) (.op .pow a' b') := by
  refine em_bin op_pow (serves_int fun x y t e => ?_) ha hb
  obtain ⟨a, b, ex, ey, e⟩ := binop_inv e
  cases a <;> cases b <;> try (cases e; done)
  rename_i i j
  have e' : (if 0 ≤ j ∧ j ≤ 10000 ∧ i.natAbs < 2 ^ 64 then some (T.im (.int (i ^ j.toNat))) else none) = some t := e
  split at e'
  · rename_i c
    cases e'
    exact ⟨i, j, ex, ey, ⟨c.1, by have := c.2.1; omega, c.2.2⟩, rfl⟩
  · cases e'
/-- list + list, read alone -/
def rCatS (K : PySem.W.Frag) : R2 := fun x y H Q => ∃ l b xs zs, x = .ref l ∧ y = .ref b ∧ SqL K H l xs ∧ SqL K H b zs ∧ xs.length + zs.length ≤ sizeLine ∧ ∀ p, H p = none → Q (.ref p) (upd H p (.lst (xs ++ zs)))
theorem op_catS : OpR X (binaryOp .Add) (rCatS X.K) := by
  intro pins s σ H x y v u Q I rx ry h
  obtain ⟨l, b, xs, zs, rfl, rfl, hH, hB, hz, q⟩ := h
  cases rx
  cases ry
  obtain ⟨its, r, ⟨⟨cls, dd, data, sl⟩, n, ho, hc, hdn, hd⟩, _⟩ := I.list hH
  obtain ⟨its2, r2, ⟨⟨cls2, dd2, data2, sl2⟩, n2, ho2, hc2, hdn2, hd2⟩, _⟩ := I.list hB
  simp only at hc hd hc2 hd2
  subst hc hd hc2 hd2
  have e1 := r.length
  have e2 := r2.length
  refine concat_meets ⟨_, ho, rfl⟩ ⟨_, ho2, rfl⟩ noFill_list_add seq_list_add PySem.F.slot_list_add PySem.F.entry_list_add (PySem.F.args_list_add_2 _ _) (list_addW l b its.toArray its2.toArray n n2 dd dd2 sl sl2 (by rw [List.size_toArray, List.size_toArray]; omega)) ⟨ho, ho2, ?_⟩
  have ea : its.toArray ++ its2.toArray = (its ++ its2).toArray := by simp
  rw [ea]
  exact ⟨.ref _, _, I.lnew (t' := s.toks) (r.append r2) (by rw [List.length_append]; omega), rfl, q _ I.fresh⟩
/-- a new tuple's object -/
abbrev tupO (us : List Value) : Obj := { cls := .type "tuple", data := .seq us.toArray }
/-- a tuple is laid, its object known -/
theorem layT {pins : List (Addr × Obj)} {σ : L2.St} {H : Hp} {s : Shared} {xs : List V} {us : List Value} {tk : Nat} {g : Heap} (I : L2.Inv X pins σ H s) (k : ∀ b u, s.heap.get? b = some u → g.get? b = some u) (hz : xs.length ≤ sizeLine) (r : Vals xs us) {p : Addr} (hp : s.heap.objs.size ≤ p) (e : g.get? p = some (tupO us)) :
    L2.Inv X pins σ (upd H p (.frz (tupO us) (.tup xs))) { s with heap := g, toks := tk } := I.laid (t' := tk) k hp ⟨e, hz, us, r, ⟨_, e, rfl, _, rfl⟩⟩
/-- (.., ..), the new object known -/
def tTupX (t : TA) : TE := fun σ H Q => t σ H fun xs H1 => xs.length ≤ sizeLine ∧ ∀ p us, H1 p = none → Q (.ref p) (upd H1 p (.frz (tupO us) (.tup xs)))
theorem pe_tupX {es : List Expr} {t : TA} {x1 : Nat} (h : PA X es t) : PE X (.Tuple es x1 pos) (tTupX t) := by
  refine ⟨fun pins s σ H Q I hq => wpAny_Tuple_spliced (thn (h.run pos pins s σ H _ I hq) fun us s1 hh => ?_)⟩
  obtain ⟨xs, H1, I1, r, z, q⟩ := hh
  exact ⟨by rw [← r.length]; exact z, .ref s1.heap.objs.size, _, layT (tk := s1.toks) I1 (fun b u e => Heap.get?_push_of_some _ e) z r (Nat.le_refl _) (Heap.get?_push_size _ rfl), rfl, q _ us (I1.hok.fresh (Nat.le_refl _))⟩
/-- tuple(x) of a list or a tuple, the new object known -/
def rTupX (K : PySem.W.Frag) : List V → Hp → VK → Prop := fun xs H Q => ∃ p ys, xs = [.ref p] ∧ ((SqL K H p ys ∧ ∀ l us, H l = none → Q (.ref l) (upd H l (.frz (tupO us) (.tup ys)))) ∨ (SqT K H p ys ∧ Q (.ref p) H))
theorem call_tupleX : CallR X (.type "tuple") (rTupX X.K) := by
  intro pins s σ H xs us Q I r h
  obtain ⟨p, ys, rfl, h⟩ := h
  obtain ⟨u, rfl, rx⟩ := Vals.one r
  cases rx
  rcases h with ⟨hq, q⟩ | ⟨hq, q⟩
  · obtain ⟨its, r2, pl, hz⟩ := I.list hq
    have hlen := r2.length
    refine call_tuple_list pl.isList (fun g kp => ?_) (by simp only [List.size_toArray] <;> omega)
    have I1 : L2.Inv X pins σ H { s with heap := g } := I.kept (t' := s.toks) kp
    exact ⟨.ref g.objs.size, _, layT (tk := s.toks) I1 (fun b o e => Heap.get?_push_of_some _ e) hz r2 (Nat.le_refl _) (Heap.get?_push_size _ rfl), rfl, q _ its (I1.hok.fresh (Nat.le_refl _))⟩
  · obtain ⟨its, _, pl, _⟩ := I.tuple hq
    exact call_tuple_same pl ⟨.ref p, H, I, rfl, q⟩
def rCatX (K : PySem.W.Frag) : R2 := fun x y H Q => ∃ a b xs ys, x = .ref a ∧ y = .ref b ∧ SqT K H a xs ∧ SqT K H b ys ∧ xs.length + ys.length ≤ sizeLine ∧
  (xs = [] → Q (.ref b) H) ∧ (xs ≠ [] → ys = [] → Q (.ref a) H) ∧ (xs ≠ [] → ys ≠ [] → ∀ p us, H p = none → Q (.ref p) (upd H p (.frz (tupO us) (.tup (xs ++ ys)))))
theorem op_catX : OpR X (binaryOp .Add) (rCatX X.K) := by
  intro pins s σ H x y v u Q I rx ry h
  obtain ⟨a, b, xs, ys, rfl, rfl, ha, hb, hz, q0, q1, q2⟩ := h
  cases rx
  cases ry
  obtain ⟨its, r1, p1, _⟩ := I.tuple ha
  obtain ⟨its2, r2, p2, _⟩ := I.tuple hb
  by_cases hx : xs = []
  · subst hx
    cases r1
    exact cat_tup0 p1 p2 ⟨.ref b, H, I, rfl, q0 rfl⟩
  · refine HT.cat_tup p1 p2 (fun z => hx (r1.nil_iff.mp z)) (fun z => ⟨.ref a, H, I, rfl, q1 hx (r2.nil_iff.mp z)⟩) (fun z => ?_) (by rw [← r1.length, ← r2.length]; exact hz)
    refine ⟨.ref s.heap.objs.size, _, layT (tk := s.toks) I (fun b ob q => Heap.get?_push_of_some _ q) (by rw [List.length_append]; exact hz) (r1.append r2) (Nat.le_refl _) (Heap.get?_push_size _ rfl), rfl, q2 hx (fun w => z (r2.nil_iff.mpr w)) _ _ (I.hok.fresh (Nat.le_refl _))⟩
theorem em_add (ha : EM X tabs cf a a') (hb : EM X tabs cf b b') : EM X tabs cf (.BinOp a .Add b pos) (.op .add a' b') := by
  refine em_bin (op_add.or (op_catX.or op_catS)) ?_ ha hb
  intro σ Z Z2 H H2 env env2 tt xs ys x y t v w Q st go rx ry e q
  obtain ⟨a, b, ex, ey, e⟩ := binop_inv e
  cases a <;> cases b <;> try (cases e; done)
  · cases e
    exact .inl ⟨_, _, rx.int ex, ry.int ey, q _ _ go TRep.int⟩
  · rename_i ds es
    have e' : (if ds.length + es.length ≤ SL then some (T.im (.tup (ds ++ es))) else none) = some t := e
    split at e'
    · rename_i c
      cases e'
      obtain ⟨l, vs, rfl, hl, r1⟩ := rx.tup ex
      obtain ⟨m, us, rfl, hm, r2⟩ := ry.tup ey
      have l1 := RepAll.len _ r1
      have l2 := RepAll.len _ r2
      rw [sl_eq] at c
      refine .inr (.inl ⟨l, m, vs, us, rfl, rfl, hl.sq, hm.sq, by omega, fun h0 => ?_, fun _ h0 => ?_, fun _ _ p os hp => ?_⟩)
      · have : ds = [] := List.eq_nil_of_length_eq_zero (by rw [l1, h0]; rfl)
        subst this
        refine q _ _ go ?_
        show Rep _ _ _ (.tup ([] ++ es)) _
        simp only [Rep]
        exact ⟨m, us, rfl, hm, r2⟩
      · have : es = [] := List.eq_nil_of_length_eq_zero (by rw [l2, h0]; rfl)
        subst this
        refine q _ _ go ?_
        show Rep _ _ _ (.tup (ds ++ [])) _
        rw [List.append_nil]
        simp only [Rep]
        exact ⟨l, vs, rfl, hl, r1⟩
      · refine q _ _ (go.new hp) ?_
        show Rep _ _ _ (.tup (ds ++ es)) _
        simp only [Rep]
        exact ⟨p, vs ++ us, rfl, ⟨_, upd_same, rfl⟩, RepAll.keep (Keep.new hp) (fun _ z => z) _ (RepAll.append _ _ r1 r2)⟩
    · cases e'
  · rename_i ds es
    have e' : (if ds.length + es.length ≤ SL then some (T.nu (.l (ds ++ es))) else none) = some t := e
    split at e'
    · rename_i c
      cases e'
      obtain ⟨l, vs, rfl, hl, r1⟩ := rx.lst ex
      obtain ⟨m, us, rfl, hm, r2⟩ := ry.lst ey
      have l1 := RepAll.len _ r1
      have l2 := RepAll.len _ r2
      rw [sl_eq] at c
      refine .inr (.inr ⟨l, m, vs, us, rfl, rfl, hl, hm, by omega, fun p hp => ?_⟩)
      refine q _ _ (go.new hp) (TRep.made st go hp ?_)
      exact ⟨vs ++ us, upd_same, RepAll.keep (Keep.new hp) (fun _ z => z) _ (RepAll.append _ _ r1 r2)⟩
    · cases e'
theorem tuple_mulS (l : Addr) (items : Array Value) (n : Nat) (dd : Option Addr) (sl : Array (Option Value)) (x : Int) (u : Tok) (c0 : (decide (x < -(2 ^ 63)) || decide (x ≥ 2 ^ 63)) = false) (c1 : (items.isEmpty || x == 1) = true) :
    Meets (Builtin.«tuple.__mul__» ⟨[.ref l, .int x u], []⟩) (fun _ R s => s.heap.get? l = some { cls := .type "tuple", dict := dd, data := .seq items n, slots := sl } ∧
      R (.ok (.ret (Value.ref l))) s) :=
  .of_wp fun prog w A R s h => by
    obtain ⟨hp, g, d, tk, os⟩ := s
    obtain ⟨hl, h⟩ := h
    have f1 := AutoSeq1.idx_int
    wp_walk using wpAny_loadPart' hl
    repeat (first
      | (refine wpAny_ite_false (decide_eq_false (by rw [c0]; exact Bool.false_ne_true)) ?_; wp_walk using wpAny_loadPart' hl)
      | (refine wpAny_ite_true (decide_eq_true c1) ?_; wp_walk using wpAny_loadPart' hl))
    exact ⟨_, rfl, h⟩
theorem tuple_mul0 (l : Addr) (items : Array Value) (n : Nat) (dd : Option Addr) (sl : Array (Option Value)) (x : Int) (u : Tok) (c0 : (decide (x < -(2 ^ 63)) || decide (x ≥ 2 ^ 63)) = false) (c1 : (items.isEmpty || x == 1) = false) (c2 : (decide (x ≤ 0) || items.isEmpty) = true) :
    Meets (Builtin.«tuple.__mul__» ⟨[.ref l, .int x u], []⟩) (fun _ R s => s.heap.get? l = some { cls := .type "tuple", dict := dd, data := .seq items n, slots := sl } ∧
      R (.ok (.ret (Value.ref s.heap.objs.size))) { s with heap := s.heap.push { cls := Value.type "tuple", data := Data.seq #[] }, toks := s.toks }) :=
  .of_wp fun prog w A R s h => by
    obtain ⟨hp, g, d, tk, os⟩ := s
    obtain ⟨hl, h⟩ := h
    have f1 := AutoSeq1.idx_int
    wp_walk using wpAny_loadPart' hl
    repeat (first
      | (refine wpAny_ite_false (decide_eq_false (by rw [c0]; exact Bool.false_ne_true)) ?_; wp_walk using wpAny_loadPart' hl)
      | (refine wpAny_ite_false (decide_eq_false (by rw [c1]; exact Bool.false_ne_true)) ?_; wp_walk using wpAny_loadPart' hl)
      | (refine wpAny_ite_true (decide_eq_true c2) ?_; wp_walk using wpAny_loadPart' hl))
    exact ⟨_, rfl, h⟩
/-- a tuple by a number; the new object known -/
def rRepX (K : PySem.W.Frag) : R2 := fun x y H Q => ∃ l k xs, x = .ref l ∧ y = .int k ∧ SqT K H l xs ∧ 0 ≤ k ∧ k ≤ 1000 ∧ xs.length ≤ 1000 ∧ ((xs = [] ∨ k = 1) → Q (.ref l) H) ∧
  (xs ≠ [] → k ≠ 1 → ∀ p us, H p = none → Q (.ref p) (upd H p (.frz (tupO us) (.tup (List.replicate k.toNat xs).flatten))))
theorem op_repX : OpR X (binaryOp .Mult) (rRepX X.K) := by
  intro pins s σ H x y v u Q I rx ry h
  obtain ⟨l, k, xs, rfl, rfl, hT, h0, h2, hz, qs, q⟩ := h
  cases rx
  obtain ⟨t, rfl⟩ := ry
  obtain ⟨its, r, ⟨⟨cls, dd, data, sl⟩, ho, hc, n, hd⟩, hs⟩ := I.tuple hT
  simp only at hc hd
  subst hc hd
  have hle : its.length = xs.length := r.length.symm
  have c0 : (decide (k < -(2 ^ 63)) || decide (k ≥ 2 ^ 63)) = false := by
    rw [decide_eq_false (by omega), decide_eq_false (by omega)] <;> rfl
  by_cases hs1 : xs = [] ∨ k = 1
  · have c1 : (its.toArray.isEmpty || k == 1) = true := by
      rcases hs1 with e | e
      · rw [e] at hle
        have : its = [] := List.eq_nil_of_length_eq_zero hle
        rw [this]
        rfl
      · rw [e]
        simp
    refine wpAny_binaryOp_repeat_ref (T := "tuple") (U := "int") (by decide) ⟨_, ho, rfl⟩ (fun s' => typeIs_int s' k t) noFill_tuple_mul F.fills_int_mul F.slot_int_rmul repeat_tuple F.slot_int_index.lookup
      (call_meets F.slot_int_rmul (typeIs_int s k t) F.entry_int_rmul (F.args_int_rmul_2 _ _) (int_rmul_tuple k t l its.toArray n dd sl)
        ⟨ho, rfl, ⟨_, ho, rfl⟩, call_meets F.slot_tuple_mul ⟨_, ho, rfl⟩ F.entry_tuple_mul (F.args_tuple_mul_2 _ _) (tuple_mulS l its.toArray n dd sl k t c0 c1) ⟨ho, ?_⟩⟩)
    exact ⟨.ref l, H, I, rfl, qs hs1⟩
  · have hne : xs ≠ [] := fun e => hs1 (.inl e)
    have hk1 : k ≠ 1 := fun e => hs1 (.inr e)
    have hn : its ≠ [] := fun e => hne (by
      rw [e] at hle
      exact List.eq_nil_of_length_eq_zero hle.symm)
    have hi : its.toArray.isEmpty = false := by
      cases its with
      | nil => exact absurd rfl hn
      | cons a b => rfl
    have c1 : (its.toArray.isEmpty || k == 1) = false := by
      rw [hi, Bool.false_or]
      exact beq_eq_false_iff_ne.mpr hk1
    by_cases hk0 : k = 0
    · subst hk0
      refine wpAny_binaryOp_repeat_ref (T := "tuple") (U := "int") (by decide) ⟨_, ho, rfl⟩ (fun s' => typeIs_int s' 0 t) noFill_tuple_mul F.fills_int_mul F.slot_int_rmul repeat_tuple F.slot_int_index.lookup
        (call_meets F.slot_int_rmul (typeIs_int s 0 t) F.entry_int_rmul (F.args_int_rmul_2 _ _) (int_rmul_tuple 0 t l its.toArray n dd sl)
          ⟨ho, rfl, ⟨_, ho, rfl⟩, call_meets F.slot_tuple_mul ⟨_, ho, rfl⟩ F.entry_tuple_mul (F.args_tuple_mul_2 _ _) (tuple_mul0 l its.toArray n dd sl 0 t c0 c1 (by simp)) ⟨ho, ?_⟩⟩)
      have q0 := q hne (by omega)
      simp only [Int.toNat_zero, List.replicate_zero, List.flatten_nil] at q0
      exact ⟨.ref s.heap.objs.size, _, layT (tk := s.toks) (us := []) I (fun b ob q => Heap.get?_push_of_some _ q) (Nat.zero_le _) .nil (Nat.le_refl _) (Heap.get?_push_size _ rfl), rfl, q0 _ [] (I.hok.fresh (Nat.le_refl _))⟩
    have hk : 2 ≤ k := by omega
    have hsz0 : its.toArray.size = xs.length := by rw [List.size_toArray, hle]
    have hm : ((its.toArray.size : Nat) : Int) * k ≤ 1000000 := by
      rw [hsz0]
      have a1 : ((xs.length : Nat) : Int) * k ≤ 1000 * k := Int.mul_le_mul_of_nonneg_right (by omega) (by omega)
      omega
    have flen : (List.replicate k.toNat its).flatten.length ≤ sizeLine := by
      rw [PyProof.Rows.lm_len_rep_flat, hle, sizeLine_eq]
      have a1 : k.toNat * xs.length ≤ 1000 * 1000 := Nat.mul_le_mul (by omega) hz
      omega
    have c2 : (decide (k ≤ 0) || its.toArray.isEmpty) = false := by
      rw [hi, Bool.or_false]
      exact decide_eq_false (by omega)
    have c4 : Builtin.Tuple.tupleTooMany (((its.toArray.size : Nat) : Int) * k) = false := by
      unfold Builtin.Tuple.tupleTooMany
      rw [sizeLine_eq]
      exact decide_eq_false (by omega)
    refine wpAny_binaryOp_repeat_ref (T := "tuple") (U := "int") (by decide) ⟨_, ho, rfl⟩ (fun s' => typeIs_int s' k t) noFill_tuple_mul F.fills_int_mul F.slot_int_rmul repeat_tuple F.slot_int_index.lookup
      (call_meets F.slot_int_rmul (typeIs_int s k t) F.entry_int_rmul (F.args_int_rmul_2 _ _) (int_rmul_tuple k t l its.toArray n dd sl)
        ⟨ho, rfl, ⟨_, ho, rfl⟩, call_meets F.slot_tuple_mul ⟨_, ho, rfl⟩ F.entry_tuple_mul (F.args_tuple_mul_2 _ _) (tuple_mulW l its.toArray n dd sl k t c0 c1 c2 (by omega) c4 (by rw [size_rep, List.size_toArray]; exact flen)) ⟨ho, ?_⟩⟩)
    rw [size_rep]
    refine ⟨.ref s.heap.objs.size, _, layT (tk := s.toks) I (fun b ob q => Heap.get?_push_of_some _ q) ?_ (r.rep k.toNat) (Nat.le_refl _) (Heap.get?_push_size _ rfl), rfl, q hne hk1 _ _ (I.hok.fresh (Nat.le_refl _))⟩
    rw [PyProof.Rows.lm_len_rep_flat, sizeLine_eq]
    have a1 : k.toNat * xs.length ≤ 1000 * 1000 := Nat.mul_le_mul (by omega) hz
    omega
theorem RepAll.repF {k : Kx} {Z : Addr → Prop} {H : Hp} {ds : List D} {vs : List V} (h : RepAll k Z H ds vs) : ∀ n : Nat, RepAll k Z H (List.replicate n ds).flatten (List.replicate n vs).flatten
  | 0 => by simp only [List.replicate_zero, List.flatten_nil, RepAll]
  | n + 1 => by
    rw [List.replicate_succ, List.replicate_succ, List.flatten_cons, List.flatten_cons]
    exact RepAll.append _ _ h (RepAll.repF h n)
/-- a product; [x] * n -/
theorem em_mul (ha : EM X tabs cf a a') (hb : EM X tabs cf b b') : EM X tabs cf (.BinOp a .Mult b pos) (.op .mul a' b') := by
  refine em_bin (op_mul.or (op_rep.or op_repX)) ?_ ha hb
  intro σ Z Z2 H H2 env env2 tt xs ys x y t v w Q st go rx ry e q
  have e0 : (match repT x y with | some t => some t | none => binD .mul x y) = some t := e
  cases hrep : repT x y with
  | none =>
    rw [hrep] at e0
    obtain ⟨a, b, ex, ey, e⟩ := binop_inv e0
    cases a <;> cases b <;> try (cases e; done)
    rename_i i j
    have e' : (if mulOk i j then some (T.im (.int (i * j))) else none) = some t := e
    split at e'
    · rename_i c
      cases e'
      refine .inl ⟨_, _, rx.int ex, ry.int ey, ?_, q _ _ go TRep.int⟩
      unfold mulOk at c
      simp only [Bool.or_eq_true, decide_eq_true_eq] at c
      rcases c with c | c
      · exact .inl ⟨by omega, by omega⟩
      · exact .inr ⟨by omega, by omega⟩
    · cases e'
  | some t' =>
    rw [hrep] at e0
    cases e0
    unfold repT at hrep
    split at hrep
    · rename_i d j
      split at hrep
      · rename_i c
        cases hrep
        obtain ⟨l, rfl, ⟨vs, hl, r1⟩, _⟩ := rx
        simp only [RepAll] at r1
        obtain ⟨u, r, rfl, r1, rfl⟩ := r1
        have s1 : (sizeLine : Nat) = 16777216 := by decide
        refine .inr (.inl ⟨l, j, [u], rfl, ry.int rfl, hl, by omega, by omega, by simp; omega, fun p hp => ?_⟩)
        have e3 : (List.replicate j.toNat [u]).flatten = List.replicate j.toNat u := by simp
        rw [e3]
        refine q _ _ (go.new hp) (TRep.made st go hp ?_)
        exact ⟨_, upd_same, RepAll.keep (Keep.new hp) (fun _ z => z) _ (RepAll.rep _ r1)⟩
      · cases hrep
    · rename_i d ds j
      split at hrep
      · rename_i c
        cases hrep
        obtain ⟨l, vs, rfl, hl, r1⟩ := rx.tup rfl
        have ll := RepAll.len _ r1
        simp only [List.length_cons] at ll
        refine .inr (.inr ⟨l, j, vs, rfl, ry.int rfl, hl.sq, by omega, by omega, by omega, fun h1 => ?_, fun _ _ p os hp => ?_⟩)
        · have ej : j = 1 := by
            rcases h1 with e | e
            · rw [e] at ll
              simp at ll
            · exact e
          subst ej
          refine q _ _ go ?_
          show Rep _ _ _ (.tup (List.replicate 1 (d :: ds)).flatten) _
          have e3 : (List.replicate 1 (d :: ds)).flatten = d :: ds := by simp
          rw [e3]
          simp only [Rep] at *
          exact ⟨l, vs, rfl, hl, r1⟩
        · refine q _ _ (go.new hp) ?_
          show Rep _ _ _ (.tup (List.replicate j.toNat (d :: ds)).flatten) _
          simp only [Rep]
          exact ⟨p, _, rfl, ⟨_, upd_same, rfl⟩, RepAll.keep (Keep.new hp) (fun _ z => z) _ (RepAll.repF r1 _)⟩
      · cases hrep
    · rename_i j
      split at hrep
      · rename_i c
        cases hrep
        obtain ⟨l, vs, rfl, hl, r1⟩ := rx.tup rfl
        have ll := RepAll.len _ r1
        have ev : vs = [] := List.eq_nil_of_length_eq_zero ll.symm
        subst ev
        refine .inr (.inr ⟨l, j, [], rfl, ry.int rfl, hl.sq, by omega, by omega, by simp, fun h1 => ?_, fun h => absurd rfl h⟩)
        refine q _ _ go ?_
        show Rep _ _ _ (.tup []) _
        simp only [Rep]
        exact ⟨l, [], rfl, hl, r1⟩
      · cases hrep
    · cases hrep
end
end Sw

set_option Elab.async false
set_option linter.all false
set_option maxRecDepth 100000
/-! Names, comparisons, tests. -/
namespace Sw
open PySem PySem.Spec PyProof.Rows L2

/-! ### data as the library's data -/
mutual
def pd : D → PyData
  | .non => .none
  | .bl b => .bool b
  | .int i => .int i
  | .str s => .str ⟨s.toArray⟩
  | .tup xs => .tuple (pds xs)
  | .lst xs => .list (pds xs)
  | .ty _ => .none
  | .pr _ => .none
def pds : List D → List PyData
  | [] => []
  | x :: xs => pd x :: pds xs
end
theorem pds_map : ∀ xs : List D, pds xs = xs.map pd
  | [] => rfl
  | x :: xs => by rw [pds, List.map_cons, pds_map xs]
mutual
theorem pd_eqv : ∀ (a b : D), a.noTy = true → b.noTy = true → PyData.eqv (pd a) (pd b) = D.eq a b
  | .non, b, _, hb => by cases b <;> first | (simp only [pd, PyData.eqv, D.eq]; done) | (simp [D.noTy] at hb; done)
  | .bl x, b, _, hb => by cases b <;> first | (simp only [pd, PyData.eqv, D.eq]; done) | (simp [D.noTy] at hb; done)
  | .int x, b, _, hb => by cases b <;> first | (simp only [pd, PyData.eqv, D.eq]; done) | (simp [D.noTy] at hb; done)
  | .str x, b, _, hb => by
    cases b with
    | str y =>
      simp only [pd, PyData.eqv, D.eq]
      by_cases e : x = y
      · subst e; simp
      · have h1 : (x == y) = false := beq_eq_false_iff_ne.mpr e
        rw [h1]
        refine beq_eq_false_iff_ne.mpr fun q => e ?_
        have := congrArg (fun s : Str => s.cps.toList) q
        simpa using this
    | ty _ => simp [D.noTy] at hb
    | pr _ => simp [D.noTy] at hb
    | _ => simp only [pd, PyData.eqv, D.eq]
  | .tup xs, b, ha, hb => by
    cases b with
    | tup ys =>
      simp only [pd, PyData.eqv, D.eq]
      exact pds_eqv xs ys (by simpa only [D.noTy] using ha) (by simpa only [D.noTy] using hb)
    | ty _ => simp [D.noTy] at hb
    | pr _ => simp [D.noTy] at hb
    | _ => simp only [pd, PyData.eqv, D.eq]
  | .lst xs, b, ha, hb => by
    cases b with
    | lst ys =>
      simp only [pd, PyData.eqv, D.eq]
      exact pds_eqv xs ys (by simpa only [D.noTy] using ha) (by simpa only [D.noTy] using hb)
    | ty _ => simp [D.noTy] at hb
    | pr _ => simp [D.noTy] at hb
    | _ => simp only [pd, PyData.eqv, D.eq]
  | .ty _, b, ha, _ => by simp [D.noTy] at ha
  | .pr _, b, ha, _ => by simp [D.noTy] at ha
theorem pds_eqv : ∀ (xs ys : List D), D.noTys xs = true → D.noTys ys = true → PyData.eqvAll (pds xs) (pds ys) = D.eqs xs ys
  | [], [], _, _ => by simp only [pds, PyData.eqvAll, D.eqs]
  | [], _ :: _, _, _ => by simp only [pds, PyData.eqvAll, D.eqs]
  | _ :: _, [], _, _ => by simp only [pds, PyData.eqvAll, D.eqs]
  | x :: xs, y :: ys, ha, hb => by
    simp only [D.noTys, Bool.and_eq_true] at ha hb
    simp only [pds, PyData.eqvAll, D.eqs]
    rw [pd_eqv x y ha.1 hb.1, pds_eqv xs ys ha.2 hb.2]
end
mutual
theorem pd_lay : ∀ a : D, a.noTy = true → (pd a).canLay0 = true
  | .non, _ => by simp only [pd, PyData.canLay0]
  | .bl _, _ => by simp only [pd, PyData.canLay0]
  | .int _, _ => by simp only [pd, PyData.canLay0]
  | .str s, h => by
    simp only [D.noTy] at h
    simp only [pd, PyData.canLay0, PyData.strOk]
    simpa using h
  | .tup xs, h => by
    simp only [D.noTy] at h
    simp only [pd, PyData.canLay0]
    exact pds_lay xs h
  | .lst xs, h => by
    simp only [D.noTy] at h
    simp only [pd, PyData.canLay0]
    exact pds_lay xs h
  | .ty _, h => by simp [D.noTy] at h
  | .pr _, h => by simp [D.noTy] at h
theorem pds_lay : ∀ xs : List D, D.noTys xs = true → PyData.canLayAll0 (pds xs) = true
  | [], _ => by simp only [pds, PyData.canLayAll0]
  | x :: xs, h => by
    simp only [D.noTys, Bool.and_eq_true] at h
    simp only [pds, PyData.canLayAll0, Bool.and_eq_true]
    exact ⟨pd_lay x h.1, pds_lay xs h.2⟩
end
mutual
theorem pd_depth : ∀ a : D, (pd a).depth = a.dep
  | .non => by simp only [pd, PyData.depth, D.dep]
  | .bl _ => by simp only [pd, PyData.depth, D.dep]
  | .int _ => by simp only [pd, PyData.depth, D.dep]
  | .str _ => by simp only [pd, PyData.depth, D.dep]
  | .tup xs => by simp only [pd, PyData.depth, D.dep, pds_depth xs]
  | .lst xs => by simp only [pd, PyData.depth, D.dep, pds_depth xs]
  | .ty _ => by simp only [pd, PyData.depth, D.dep]
  | .pr _ => by simp only [pd, PyData.depth, D.dep]
theorem pds_depth : ∀ xs : List D, PyData.depthAll (pds xs) = D.deps xs
  | [] => by simp only [pds, PyData.depthAll, D.deps]
  | x :: xs => by simp only [pds, PyData.depthAll, D.deps, pd_depth x, pds_depth xs]
end
theorem pd_shaped {a : D} (h : a.flat = true) : SeqAt.shaped (pd a) = true := by
  unfold D.flat at h
  simp only [Bool.and_eq_true, decide_eq_true_eq] at h
  unfold SeqAt.shaped
  simp only [Bool.and_eq_true, decide_eq_true_eq]
  exact ⟨pd_lay a h.1, by rw [pd_depth]; omega⟩
theorem flat_noTy {a : D} (h : a.flat = true) : a.noTy = true := by
  unfold D.flat at h
  simp only [Bool.and_eq_true] at h
  exact h.1
section
variable {k : Kx} {Z : Addr → Prop} {H : Hp}
mutual
theorem Rep.dp : ∀ (d : D) {v : V}, d.noTy = true → Rep k Z H d v → Dp k.K H v (pd d)
  | .non, v, _, h => by simp only [Rep] at h; subst h; exact .non
  | .bl _, v, _, h => by simp only [Rep] at h; subst h; exact .bl _
  | .int _, v, _, h => by simp only [Rep] at h; subst h; exact .int _
  | .str _, v, _, h => by
    simp only [Rep] at h
    obtain ⟨x, rfl, rfl⟩ := h
    exact .str x
  | .tup ds, v, t, h => by
    simp only [Rep] at h
    simp only [D.noTy] at t
    obtain ⟨a, vs, rfl, s, r⟩ := h
    exact .tup s.sq (RepAll.dp ds t r)
  | .lst ds, v, t, h => by
    simp only [Rep] at h
    simp only [D.noTy] at t
    obtain ⟨a, vs, rfl, s, r⟩ := h
    exact .lst (zl_sq s) (RepAll.dp ds t r)
  | .ty _, v, t, _ => by simp [D.noTy] at t
  | .pr _, v, t, _ => by simp [D.noTy] at t
theorem RepAll.dp : ∀ (ds : List D) {vs : List V}, D.noTys ds = true → RepAll k Z H ds vs → DpAll k.K H vs (pds ds)
  | [], vs, _, h => by simp only [RepAll] at h; subst h; exact .nil
  | d :: ds, vs, t, h => by
    simp only [RepAll] at h
    simp only [D.noTys, Bool.and_eq_true] at t
    obtain ⟨v, r, rfl, h1, h2⟩ := h
    exact .cons (Rep.dp d t.1 h1) (RepAll.dp ds t.2 h2)
end
theorem VRep.dp {σ : L2.St} {env : En} {xs : List Nat} {t : T} {v : V} (h : VRep k Z H σ env xs t v) {d : D} (e : t.d = some d) (hn : d.noTy = true) : Dp k.K H v (pd d) := by
  rcases T.d_cases e with rfl | ⟨ds, rfl, rfl⟩
  · exact Rep.dp d hn h
  · obtain ⟨a, vs, rfl, s, r⟩ := h.lst e
    simp only [D.noTy] at hn
    exact .lst s (RepAll.dp ds hn r)
theorem VRep.tru {σ : L2.St} {env : En} {xs : List Nat} {t : T} {v : V} (h : VRep k Z H σ env xs t v) {b : Bool} (e : truth t = some b) : TruV k.K v H b := by
  cases t with
  | im d =>
    have h : Rep k Z H d v := h
    cases d with
    | non => simp only [Rep] at h; subst h; cases e; rfl
    | bl c => simp only [Rep] at h; subst h; cases e; rfl
    | int i => simp only [Rep] at h; subst h; cases e; rfl
    | str s =>
      simp only [Rep] at h
      obtain ⟨x, rfl, rfl⟩ := h
      have e' : (if x.cps.toList.length ≤ SL then some (!x.cps.toList.isEmpty) else none) = some b := e
      split at e'
      · rename_i c
        cases e'
        have hl : x.length = x.cps.toList.length := by simp [Str.length]
        refine ⟨by rw [hl, ← sl_eq]; exact c, ?_⟩
        rw [hl]
        cases x.cps.toList with
        | nil => rfl
        | cons y ys =>
          show true = (((ys.length + 1 : Nat) : Int) != 0)
          symm
          rw [bne_iff_ne]
          omega
      · cases e'
    | tup ds =>
      simp only [Rep] at h
      obtain ⟨a, vs, rfl, s, r⟩ := h
      cases e
      refine .inr (.inl ⟨vs, s.sq, ?_⟩)
      have := RepAll.len _ r
      cases ds <;> cases vs <;> simp at this ⊢
    | lst ds =>
      simp only [Rep] at h
      obtain ⟨a, vs, rfl, s, r⟩ := h
      cases e
      refine .inl ⟨vs, zl_sq s, ?_⟩
      have := RepAll.len _ r
      cases ds <;> cases vs <;> simp at this ⊢
    | ty n => cases e
    | pr n => cases e
  | nu o =>
    cases o with
    | s _ => cases e
    | l ds =>
      obtain ⟨a, vs, rfl, s, r⟩ := h.lst rfl
      cases e
      refine .inl ⟨vs, s, ?_⟩
      have := RepAll.len _ r
      cases ds <;> cases vs <;> simp at this ⊢
end

/-! ### names, constants -/
theorem StOk.own {k : Kx} {Z : Addr → Prop} {H : Hp} {σ : L2.St} {env : En} (s : StOk k Z H σ env) {i : Nat} {b : Bool} {o : O} (e : env[i]? = some (.mu b o)) : ∃ a, σ[i]? = some (some (.ref a)) ∧ ORep k Z H a o ∧ ¬ Z a ∧ OwnAt σ env i a :=
  let ⟨a, h1, h2, h3⟩ := s.mu i b o e; ⟨a, h1, h2, h3, ⟨b, o, e⟩, h1⟩
theorem setW_same {env : En} {i : Nat} {w x : W} (h : env[i]? = some x) : (setW env i w)[i]? = some w := by
  unfold setW
  rw [List.getElem?_set_self (List.getElem?_eq_some_iff.mp h).1]
theorem setW_ne {env : En} {i j : Nat} {w : W} (h : j ≠ i) : (setW env i w)[j]? = env[j]? := List.getElem?_set_ne (Ne.symm h)
/-- a slot's list is frozen -/
theorem Go.freezeSlot {k : Kx} {Z : Addr → Prop} {H : Hp} {σ : L2.St} {env : En} (s : StOk k Z H σ env) {i : Nat} {b : Bool} {ds : List D} {a : Addr} (e : env[i]? = some (.mu b (.l ds))) (ha : σ[i]? = some (some (.ref a))) {w : W} (hw : w = .fz ds ∨ (b = false ∧ w = .im (.lst ds))) :
    Go k [i] σ Z H env (fun x => Z x ∨ x = a) H (setW env i w) ∧ Rep k (fun x => Z x ∨ x = a) H (.lst ds) (.ref a) := by
  obtain ⟨a', h1, ⟨vs, hH, r⟩, h3, ow⟩ := s.own e
  rw [ha] at h1
  cases h1
  have hz : ∀ x, Z x → Z x ∨ x = a := fun _ z => .inl z
  have rep : Rep k (fun x => Z x ∨ x = a) H (.lst ds) (.ref a) := by
    simp only [Rep]
    exact ⟨a, vs, rfl, .inl ⟨.inr rfl, .inl hH⟩, RepAll.keep .refl hz ds r⟩
  have hmu : ∀ j c o, (setW env i w)[j]? = some (.mu c o) → j ≠ i ∧ env[j]? = some (.mu c o) := fun j c o q => by
    by_cases hj : j = i
    · subst hj
      rw [setW_same e] at q
      rcases hw with rfl | ⟨_, rfl⟩ <;> cases q
    · rw [setW_ne hj] at q
      exact ⟨hj, q⟩
  have hsub : ∀ j x, OwnAt σ (setW env i w) j x → j ≠ i ∧ OwnAt σ env j x := fun j x ⟨⟨c, o, q⟩, hs⟩ => ⟨(hmu j c o q).1, ⟨c, o, (hmu j c o q).2⟩, hs⟩
  refine ⟨⟨hz, fun x q => ?_, fun x o q _ _ => q, fun x q => q, fun j hj => setW_ne fun q => hj (by simp [q]), fun j x q => (hsub j x q).2, fun j q => ?_, ?_⟩, rep⟩
  · rcases q with q | q
    · exact .inl q
    · subst q; exact .inr (.inr ⟨i, ow⟩)
  · by_cases hj : j = i
    · subst hj
      rcases hw with rfl | ⟨hb, rfl⟩
      · exact .inr ⟨ds, setW_same e⟩
      · rcases q with ⟨o, q⟩ | ⟨ds', q⟩
        · rw [e] at q; cases q; cases hb
        · rw [e] at q; cases q
    · unfold Lent
      rw [setW_ne hj]
      exact q
  · refine ⟨by unfold setW; rw [List.length_set]; exact s.len, fun j d q => ?_, fun j d q => ?_, fun j c o q => ?_, fun j l x q1 q2 => ?_, s.tab, fun x q => ?_⟩
    · by_cases hj : j = i
      · subst hj
        rw [setW_same e] at q
        rcases hw with rfl | ⟨_, rfl⟩ <;> cases q
        exact ⟨_, ha, rep⟩
      · rw [setW_ne hj] at q
        obtain ⟨v, q1, q2⟩ := s.im j d q
        exact ⟨v, q1, Rep.keep .refl hz d q2⟩
    · by_cases hj : j = i
      · subst hj
        rw [setW_same e] at q
        rcases hw with rfl | ⟨_, rfl⟩ <;> cases q
        exact ⟨_, ha, .inr rfl, rep⟩
      · rw [setW_ne hj] at q
        obtain ⟨v, q1, q3, q2⟩ := s.fz j d q
        exact ⟨v, q1, hz v q3, Rep.keep .refl hz _ q2⟩
    · obtain ⟨hj, q⟩ := hmu j c o q
      obtain ⟨x, q1, q2, q3⟩ := s.mu j c o q
      refine ⟨x, q1, ORep.keep .refl hz rfl q2, fun z => ?_⟩
      rcases z with z | z
      · exact q3 z
      · subst z
        exact hj (s.inj j i x ⟨⟨c, o, q⟩, q1⟩ ow)
    · exact s.inj j l x (hsub j x q1).2 (hsub l x q2).2
    · rcases q with q | q
      · exact s.zh x q
      · subst q; rw [hH]; simp
section
variable {X : Cx} {tabs : List Addr} {cf : CF} {a b c : Expr} {a' b' c' : E} {pos : Pos}
theorem em_v {i : Nat} {x : Str} (hN : X.N[i]? = some x) (hv : Vis X.env.scope x) (hd : (x == ("__debug__" : Str)) = false) (hcd : (x == ("__classdict__" : Str)) = false) : EM X tabs cf (.Name x pos) (.v i) := by
  refine ⟨fun vw _ => Sw.PE.weak (pe_var hN hv hd hcd) fun σ H Q h => ?_⟩
  obtain ⟨Z, env, t, env', st, he, q⟩ := h
  rw [ev_v] at he
  unfold rdV at he
  split at he
  · rename_i d e
    cases he
    obtain ⟨v, h1, h2⟩ := st.im i d e
    exact ⟨v, h1, q v Z H (.refl st) (.im h2)⟩
  · rename_i ds e
    cases he
    obtain ⟨v, h1, _, h2⟩ := st.fz i ds e
    exact ⟨_, h1, q _ Z H (.refl st) (.im h2)⟩
  · rename_i bo ds e
    obtain ⟨ad, h1, h2, h3, ow⟩ := st.own e
    split at he
    · rename_i hvw
      cases he
      subst hvw
      refine ⟨_, h1, q _ Z H (.refl st) ?_⟩
      exact ⟨ad, rfl, h2, h3, fun j oj => by rw [st.inj j i ad oj ow]; simp [vws]⟩
    · rename_i hvw
      cases he
      obtain ⟨g, r⟩ := Go.freezeSlot st e h1 (w := if bo then .fz ds else .im (.lst ds)) (by cases bo <;> simp)
      refine ⟨_, h1, q _ _ H (g.mono fun j hj => ?_) (.im r)⟩
      cases vw with
      | true => exact absurd rfl hvw
      | false => exact hj
  · rename_i bo xs e
    obtain ⟨ad, h1, h2, h3, ow⟩ := st.own e
    split at he
    · rename_i hvw
      cases he
      subst hvw
      refine ⟨_, h1, q _ Z H (.refl st) ?_⟩
      exact ⟨ad, rfl, h2, h3, fun j oj => by rw [st.inj j i ad oj ow]; simp [vws]⟩
    · cases he
  · cases he
theorem em_c {e : Expr} {v : V} {d : D} (h : PE X e (tC v)) (hr : ∀ Z H, Rep (kx X tabs) Z H d v) : EM X tabs cf e (.c d) := by
  refine ⟨fun vw _ => Sw.PE.weak h fun σ H Q h => ?_⟩
  obtain ⟨Z, env, t, env', st, he, q⟩ := h
  rw [ev_c] at he
  cases he
  exact q v Z H (.refl st) (.im (hr Z H))
theorem em_int {i : Int} {j : Nat} : EM X tabs cf (.Constant (.int i) j pos) (.c (.int i)) := em_c pe_int fun _ _ => rfl
theorem em_bl {i : Bool} {j : Nat} : EM X tabs cf (.Constant (.bool i) j pos) (.c (.bl i)) := em_c pe_bl fun _ _ => rfl
theorem em_non {j : Nat} : EM X tabs cf (.Constant .none j pos) (.c .non) := em_c pe_non fun _ _ => rfl
theorem em_str {x : Str} {l : List Nat} {j : Nat} (h : x.cps.toList = l) : EM X tabs cf (.Constant (.str x) j pos) (.c (.str l)) := em_c pe_str fun _ _ => ⟨x, rfl, h⟩
/-- a name of a built-in class -/
theorem em_ty {x : Str} {n : Nat} (hg : Gl X x) (hm : X.mg x = none) (hv : bootBuiltins x = some (.type (tyName n))) (hn : x ≠ "__name__") (hd : (x == ("__debug__" : Str)) = false) : EM X tabs cf (.Name x pos) (.c (.ty n)) :=
  em_c (pe_bltn (v := .ty (tyName n)) hg hm hv rfl hn hd) fun _ _ => rfl
/-- a constant of the module -/
theorem em_gint {x : Str} {i : Int} {t : Tok} (hg : Gl X x) (hm : X.mg x = some (.int i t)) (hd : (x == ("__debug__" : Str)) = false) : EM X tabs cf (.Name x pos) (.c (.int i)) := em_c (pe_glob (v := .int i) hg hm ⟨_, rfl⟩ hd) fun _ _ => rfl
theorem em_gstr {x z : Str} {l : List Nat} {t : Tok} (h : z.cps.toList = l) (hg : Gl X x) (hm : X.mg x = some (.str z t)) (hd : (x == ("__debug__" : Str)) = false) : EM X tabs cf (.Name x pos) (.c (.str l)) := em_c (pe_glob (v := .str z) hg hm ⟨_, rfl⟩ hd) fun _ _ => ⟨z, rfl, h⟩

/-! ### comparisons -/
def ServesC (k : Kx) (r : R2) (o : COp) : Prop := ∀ (σ : L2.St) (Z : Addr → Prop) (H : Hp) (env : En) (xs ys : List Nat) (x y : T) (b : Bool) (v w : V) (Q : VK), StOk k Z H σ env →
  VRep k Z H σ env xs x v → VRep k Z H σ env ys y w → cmpop o x y = some b → Q (.bl b) H → r v w H Q
theorem em_cmp {op : CmpOp} {o : COp} {r : R2} (ho : OpR X (compareOp op) r) (hs : ServesC (kx X tabs) r o) (hm : behindInMarks op b = false) (ha : EM X tabs cf a a') (hb : EM X tabs cf b b') : EM X tabs cf (.Compare a [op] [b] pos) (.cmp o a' b') := by
  refine ⟨fun vw ok => ?_⟩
  simp only [okE, Bool.and_eq_true] at ok
  obtain ⟨ok1, ok2, ok3⟩ := ok
  refine Sw.PE.weak (pe_cmpR ho (ha.run true ok1) (hb.run true ok2) hm) fun σ H Q h => ?_
  obtain ⟨Z, env, t, env', st, he, q⟩ := h
  rw [ev_cmp] at he
  obtain ⟨x, env1, h1, he⟩ := Res.bind_ok he
  obtain ⟨y, env2, h2, he⟩ := Res.bind_ok he
  obtain ⟨hf, rfl⟩ := Res.of_ok he
  refine ⟨Z, env, x, env1, st, h1, fun v Z1 H1 g1 r1 => ⟨Z1, env1, y, _, g1.st, h2, fun w Z2 H2 g2 r2 => ?_⟩⟩
  have r1' := VRep.go g1.st g2 (disj_mem ok3) r1.v
  cases hc : cmpop o x y with
  | none => rw [hc] at hf; cases hf
  | some b =>
    rw [hc] at hf
    cases hf
    exact hs σ Z2 H2 _ _ _ x y b v w Q g2.st r1' r2.v hc (q _ Z2 H2 (g1.trans g2) (.im Rep.bl))
theorem cmpop_inv {o : COp} {x y : T} {b : Bool} (h : cmpop o x y = some b) : (∃ c d, x.d = some c ∧ y.d = some d ∧ cmpop o (.im c) (.im d) = some b) ∨ (∃ i zs, x.d = some (.int i) ∧ y = .nu (.s zs) ∧ ((o = .inn ∧ b = zs.contains i) ∨ (o = .nin ∧ b = !zs.contains i))) := by
  cases hx : x.d with
  | none =>
    unfold cmpop at h
    rw [hx] at h
    cases hy : y.d <;> rw [hy] at h <;> cases h
  | some c =>
    cases hy : y.d with
    | some d =>
      refine .inl ⟨c, d, rfl, rfl, ?_⟩
      unfold cmpop at h ⊢
      rw [hx, hy] at h
      exact h
    | none =>
      unfold cmpop at h
      rw [hx, hy] at h
      cases c with
      | int i =>
        cases y with
        | im d => cases hy
        | nu o' =>
          cases o' with
          | l ds => cases hy
          | s zs =>
            cases o <;> try (cases h; done)
            · cases h; exact .inr ⟨i, zs, rfl, rfl, .inl ⟨rfl, rfl⟩⟩
            · cases h; exact .inr ⟨i, zs, rfl, rfl, .inr ⟨rfl, rfl⟩⟩
      | _ => cases h
theorem servesI {k : Kx} {o : COp} {g : Int → Int → Bool} (h : ∀ c d b, cmpop o (.im c) (.im d) = some b → ∃ i j, c = .int i ∧ d = .int j ∧ b = g i j) (hn : o ≠ .inn ∧ o ≠ .nin) : ServesC k (rI0 fun i j => .bl (g i j)) o := by
  intro σ Z H env xs ys x y b v w Q st rx ry e q
  rcases cmpop_inv e with ⟨c, d, ex, ey, e⟩ | ⟨i, zs, _, _, ⟨e, _⟩ | ⟨e, _⟩⟩
  · obtain ⟨i, j, rfl, rfl, rfl⟩ := h c d b e
    exact ⟨i, j, rx.int ex, ry.int ey, q⟩
  · exact absurd e hn.1
  · exact absurd e hn.2
theorem em_lt (ha : EM X tabs cf a a') (hb : EM X tabs cf b b') : EM X tabs cf (.Compare a [.Lt] [b] pos) (.cmp .lt a' b') :=
  em_cmp op_lt (servesI (fun c d r e => by cases c <;> cases d <;> try (cases e; done)
                                           exact ⟨_, _, rfl, rfl, (Option.some.inj e).symm⟩) ⟨(nomatch ·), (nomatch ·)⟩) (nobehind _ (by decide) (by decide)) ha hb
theorem em_le (ha : EM X tabs cf a a') (hb : EM X tabs cf b b') : EM X tabs cf (.Compare a [.LtE] [b] pos) (.cmp .le a' b') :=
  em_cmp op_le (servesI (fun c d r e => by cases c <;> cases d <;> try (cases e; done)
                                           exact ⟨_, _, rfl, rfl, (Option.some.inj e).symm⟩) ⟨(nomatch ·), (nomatch ·)⟩) (nobehind _ (by decide) (by decide)) ha hb
theorem em_gt (ha : EM X tabs cf a a') (hb : EM X tabs cf b b') : EM X tabs cf (.Compare a [.Gt] [b] pos) (.cmp .gt a' b') :=
  em_cmp op_gt (servesI (fun c d r e => by cases c <;> cases d <;> try (cases e; done)
                                           exact ⟨_, _, rfl, rfl, (Option.some.inj e).symm⟩) ⟨(nomatch ·), (nomatch ·)⟩) (nobehind _ (by decide) (by decide)) ha hb
theorem em_ge (ha : EM X tabs cf a a') (hb : EM X tabs cf b b') : EM X tabs cf (.Compare a [.GtE] [b] pos) (.cmp .ge a' b') :=
  em_cmp op_ge (servesI (fun c d r e => by cases c <;> cases d <;> try (cases e; done)
                                           exact ⟨_, _, rfl, rfl, (Option.some.inj e).symm⟩) ⟨(nomatch ·), (nomatch ·)⟩) (nobehind _ (by decide) (by decide)) ha hb
theorem serves_eq {k : Kx} : ServesC k (rEqD k.K) .eq := by
  intro σ Z H env xs ys x y b v w Q st rx ry e q
  rcases cmpop_inv e with ⟨c, d, ex, ey, e⟩ | ⟨i, zs, _, _, ⟨e, _⟩ | ⟨e, _⟩⟩
  · have e' : (if c.flat && d.flat then some (D.eq c d) else none) = some b := e
    split at e'
    · rename_i hf
      simp only [Bool.and_eq_true] at hf
      cases e'
      refine ⟨pd c, pd d, rx.dp ex (flat_noTy hf.1), ry.dp ey (flat_noTy hf.2), pd_shaped hf.1, pd_shaped hf.2, ?_⟩
      rw [pd_eqv _ _ (flat_noTy hf.1) (flat_noTy hf.2)]
      exact q
    · cases e'
  · cases e
  · cases e
theorem serves_ne {k : Kx} : ServesC k (rNeD k.K) .ne := by
  intro σ Z H env xs ys x y b v w Q st rx ry e q
  rcases cmpop_inv e with ⟨c, d, ex, ey, e⟩ | ⟨i, zs, _, _, ⟨e, _⟩ | ⟨e, _⟩⟩
  · have e' : (if c.flat && d.flat then some (!D.eq c d) else none) = some b := e
    split at e'
    · rename_i hf
      simp only [Bool.and_eq_true] at hf
      cases e'
      refine ⟨pd c, pd d, rx.dp ex (flat_noTy hf.1), ry.dp ey (flat_noTy hf.2), pd_shaped hf.1, pd_shaped hf.2, ?_⟩
      rw [pd_eqv _ _ (flat_noTy hf.1) (flat_noTy hf.2)]
      exact q
    · cases e'
  · cases e
  · cases e
theorem em_eq {l : Nat} (hr : Room l X.A) (ha : EM X tabs cf a a') (hb : EM X tabs cf b b') : EM X tabs cf (.Compare a [.Eq] [b] pos) (.cmp .eq a' b') :=
  em_cmp (op_eqD hr.units) serves_eq (nobehind _ (by decide) (by decide)) ha hb
theorem em_ne {l : Nat} (hr : Room l X.A) (ha : EM X tabs cf a a') (hb : EM X tabs cf b b') : EM X tabs cf (.Compare a [.NotEq] [b] pos) (.cmp .ne a' b') :=
  em_cmp (op_neD hr.units) serves_ne (nobehind _ (by decide) (by decide)) ha hb

/-! ### tests -/
def RdT (k : Kx) (cf : CF) (e : E) : TT := fun σ H Q => ∃ Z env b env', StOk k Z H σ env ∧ truthR (ev cf e true env) = .ok b env' ∧
  ∀ Z' H', Go k (tou e (.val true)) σ Z H env Z' H' env' → Q b H'
structure TM (X : Cx) (tabs : List Addr) (cf : CF) (e : Expr) (e' : E) : Prop where
  run : okE e' (.val true) = true → PT X e (RdT (kx X tabs) cf e')
theorem PT.weak {X : Cx} {e : Expr} {t t' : TT} (h : PT X e t) (hw : ∀ σ H Q, t' σ H Q → t σ H Q) : PT X e t' := ⟨fun pins s σ H Q I q => h.run pins s σ H Q I (hw σ H Q q)⟩
/-- an expression whose truth is asked plainly -/
theorem tm_em (he : ∀ whole, isTrue a X.env whole = (do let v ← whole; standAt a.pos; holding [v] (truthy v))) (ha : EM X tabs cf a a') : TM X tabs cf a a' := by
  refine ⟨fun ok => Sw.PT.weak (pt_truth (ha.run true ok) he) fun σ H Q h => ?_⟩
  obtain ⟨Z, env, b, env', st, he, q⟩ := h
  obtain ⟨x, env1, h1, he⟩ := Res.bind_ok he
  obtain ⟨hf, rfl⟩ := Res.of_ok he
  exact ⟨Z, env, x, _, st, h1, fun v Z1 H1 g1 r1 => ⟨b, r1.v.tru hf, q Z1 H1 g1⟩⟩
/-- a comparison as a test -/
theorem tm_cmp {op : CmpOp} {o : COp} {r : R2} (ho : OpR X (compareOp op) r) (hs : ServesC (kx X tabs) r o) (hm : behindInMarks op b = false) (ha : EM X tabs cf a a') (hb : EM X tabs cf b b') : TM X tabs cf (.Compare a [op] [b] pos) (.cmp o a' b') := by
  refine ⟨fun ok => ?_⟩
  simp only [okE, Bool.and_eq_true] at ok
  obtain ⟨ok1, ok2, ok3⟩ := ok
  refine Sw.PT.weak (pt_cmpR ho (ha.run true ok1) (hb.run true ok2) hm) fun σ H Q h => ?_
  obtain ⟨Z, env, t, env', st, he, q⟩ := h
  obtain ⟨x0, env0, h0, he⟩ := Res.bind_ok he
  obtain ⟨ht, rfl⟩ := Res.of_ok he
  rw [ev_cmp] at h0
  obtain ⟨x, env1, h1, he⟩ := Res.bind_ok h0
  obtain ⟨y, env2, h2, he⟩ := Res.bind_ok he
  obtain ⟨hf, rfl⟩ := Res.of_ok he
  refine ⟨Z, env, x, env1, st, h1, fun v Z1 H1 g1 r1 => ⟨Z1, env1, y, _, g1.st, h2, fun w Z2 H2 g2 r2 => ?_⟩⟩
  have r1' := VRep.go g1.st g2 (disj_mem ok3) r1.v
  cases hc : cmpop o x y with
  | none => rw [hc] at hf; cases hf
  | some b =>
    rw [hc] at hf
    cases hf
    cases ht
    exact hs σ Z2 H2 _ _ _ x y _ v w _ g2.st r1' r2.v hc ⟨_, rfl, q Z2 H2 (g1.trans g2)⟩
theorem tm_not (ha : TM X tabs cf a a') : TM X tabs cf (.UnaryOp .Not a pos) (.no a') := by
  refine ⟨fun ok => Sw.PT.weak (pt_not (ha.run ok)) fun σ H Q h => ?_⟩
  obtain ⟨Z, env, t, env', st, he, q⟩ := h
  obtain ⟨x0, env0, h0, he⟩ := Res.bind_ok he
  obtain ⟨ht, rfl⟩ := Res.of_ok he
  rw [ev_no] at h0
  obtain ⟨b, env1, h1, he⟩ := Res.bind_ok h0
  cases he
  cases ht
  exact ⟨Z, env, b, _, st, h1, fun Z' H' g => q Z' H' g⟩
end
end Sw

set_option Elab.async false
set_option linter.all false
set_option maxRecDepth 100000
/-! Truth, displays, subscripts, built-in functions. -/
namespace Sw
open PySem PySem.Spec PyProof.Rows L2
section
variable {X : Cx} {tabs : List Addr} {cf : CF} {a b c : Expr} {a' b' c' : E} {pos : Pos}
theorem em_neg (ha : EM X tabs cf a a') : EM X tabs cf (.UnaryOp .USub a pos) (.neg a') := by
  refine ⟨fun vw ok => Sw.PE.weak (pe_un un_neg (ha.run true ok)) fun σ H Q h => ?_⟩
  obtain ⟨Z, env, t, env', st, he, q⟩ := h
  rw [ev_neg] at he
  obtain ⟨x, env1, h1, he⟩ := Res.bind_ok he
  obtain ⟨hf, rfl⟩ := Res.of_ok he
  refine ⟨Z, env, x, _, st, h1, fun v Z1 H1 g1 r1 => ?_⟩
  cases x with
  | nu o => cases hf
  | im d => cases d with
    | int i => cases hf; exact ⟨i, r1.v.int rfl, q _ Z1 H1 g1 (.im rfl)⟩
    | _ => cases hf
theorem em_not (ha : EM X tabs cf a a') : EM X tabs cf (.UnaryOp .Not a pos) (.no a') := by
  refine ⟨fun vw ok => Sw.PE.weak (pe_notT (ha.run true ok)) fun σ H Q h => ?_⟩
  obtain ⟨Z, env, t, env', st, he, q⟩ := h
  rw [ev_no] at he
  obtain ⟨b, env1, h1, he⟩ := Res.bind_ok he
  cases he
  obtain ⟨x, env2, h1, h2⟩ := Res.bind_ok h1
  obtain ⟨hf, rfl⟩ := Res.of_ok h2
  exact ⟨Z, env, x, _, st, h1, fun v Z1 H1 g1 r1 => ⟨b, r1.v.tru hf, q _ Z1 H1 g1 (.im rfl)⟩⟩
theorem XRep.tru {k : Kx} {H0 : Hp} {Z : Addr → Prop} {H : Hp} {σ : L2.St} {env : En} {vw : Bool} {xs : List Nat} {t : T} {v : V} (h : XRep k H0 Z H σ env vw xs t v) {b : Bool} (e : truth t = some b) : TruV k.K v H b := by
  cases vw with
  | true => exact h.v.tru e
  | false => exact (TRep.view (xs := []) h.t).tru e
theorem XRep.weak {k : Kx} {H0 H1 : Hp} {Z : Addr → Prop} {H : Hp} {σ : L2.St} {env : En} {vw : Bool} {xs ys : List Nat} {t : T} {v : V} (h : XRep k H0 Z H σ env vw xs t v) (hs : ∀ i ∈ xs, i ∈ ys) (hh : ∀ a, H0 a = none → H1 a = none) : XRep k H1 Z H σ env vw ys t v := by
  cases vw with
  | true =>
    show VRep k Z H σ env ys t v
    have h := h.v
    cases t with
    | im d => exact h
    | nu o => obtain ⟨a, e, r, z, n⟩ := h; exact ⟨a, e, r, z, fun i q => hs i (n i q)⟩
  | false => exact TRep.back hh h.t
theorem em_and {rest : List Expr} (ha : EM X tabs cf a a') (hb : EM X tabs cf (.BoolOp .And (b :: rest) pos) b') : EM X tabs cf (.BoolOp .And (a :: b :: rest) pos) (.an a' b') := by
  refine ⟨fun vw ok => ?_⟩
  simp only [okE, Bool.and_eq_true, Md.vw] at ok
  refine Sw.PE.weak (pe_andT (ha.run vw ok.1) (hb.run vw ok.2)) fun σ H Q h => ?_
  obtain ⟨Z, env, t, env', st, he, q⟩ := h
  rw [ev_an] at he
  obtain ⟨x, env1, h1, he⟩ := Res.bind_ok he
  obtain ⟨kk, env2, h2, he⟩ := Res.bind_ok he
  obtain ⟨hf, rfl⟩ := Res.of_ok h2
  refine ⟨Z, env, x, _, st, h1, fun v Z1 H1 g1 r1 => ⟨kk, r1.tru hf, ?_⟩⟩
  cases kk with
  | true =>
    rw [if_pos rfl] at he ⊢
    refine ⟨Z1, _, t, env', g1.st, he, fun w Z2 H2 g2 r2 => q w Z2 H2 (g1.trans g2) (r2.weak (fun i hi => ?_) fun x e => g1.there x e)⟩
    simp only [vws]
    exact List.mem_append_right _ hi
  | false =>
    rw [if_neg Bool.false_ne_true] at he ⊢
    cases he
    refine q v Z1 H1 (g1.mono fun i hi => List.mem_append_left _ hi) (r1.weak (fun i hi => ?_) fun _ e => e)
    simp only [vws]
    exact List.mem_append_left _ hi
theorem em_or {rest : List Expr} (ha : EM X tabs cf a a') (hb : EM X tabs cf (.BoolOp .Or (b :: rest) pos) b') : EM X tabs cf (.BoolOp .Or (a :: b :: rest) pos) (.oo a' b') := by
  refine ⟨fun vw ok => ?_⟩
  simp only [okE, Bool.and_eq_true, Md.vw] at ok
  refine Sw.PE.weak (pe_orT (ha.run vw ok.1) (hb.run vw ok.2)) fun σ H Q h => ?_
  obtain ⟨Z, env, t, env', st, he, q⟩ := h
  rw [ev_oo] at he
  obtain ⟨x, env1, h1, he⟩ := Res.bind_ok he
  obtain ⟨kk, env2, h2, he⟩ := Res.bind_ok he
  obtain ⟨hf, rfl⟩ := Res.of_ok h2
  refine ⟨Z, env, x, _, st, h1, fun v Z1 H1 g1 r1 => ⟨kk, r1.tru hf, ?_⟩⟩
  cases kk with
  | false =>
    rw [if_neg Bool.false_ne_true] at he ⊢
    refine ⟨Z1, _, t, env', g1.st, he, fun w Z2 H2 g2 r2 => q w Z2 H2 (g1.trans g2) (r2.weak (fun i hi => ?_) fun x e => g1.there x e)⟩
    simp only [vws]
    exact List.mem_append_right _ hi
  | true =>
    rw [if_pos rfl] at he ⊢
    cases he
    refine q v Z1 H1 (g1.mono fun i hi => List.mem_append_left _ hi) (r1.weak (fun i hi => ?_) fun _ e => e)
    simp only [vws]
    exact List.mem_append_left _ hi
theorem em_one {op : BoolOp} (ha : EM X tabs cf a a') : EM X tabs cf (.BoolOp op [a] pos) a' := ⟨fun vw ok => pe_one (ha.run vw ok)⟩
theorem em_ite (hc : TM X tabs cf c c') (ha : EM X tabs cf a a') (hb : EM X tabs cf b b') : EM X tabs cf (.IfExp c a b pos) (.ite c' a' b') := by
  refine ⟨fun vw ok => ?_⟩
  simp only [okE, Bool.and_eq_true, Md.vw] at ok
  refine Sw.PE.weak (pe_ifExp (hc.run ok.1) (ha.run vw ok.2.1) (hb.run vw ok.2.2)) fun σ H Q h => ?_
  obtain ⟨Z, env, t, env', st, he, q⟩ := h
  rw [ev_ite] at he
  obtain ⟨kk, env1, h1, he⟩ := Res.bind_ok he
  refine ⟨Z, env, kk, env1, st, h1, fun Z1 H1 g1 => ?_⟩
  cases kk with
  | true =>
    rw [if_pos rfl] at he ⊢
    refine ⟨Z1, _, t, env', g1.st, he, fun w Z2 H2 g2 r2 => q w Z2 H2 ((g1.trans g2).mono fun i hi => ?_) (r2.weak (fun i hi => ?_) fun x e => g1.there x e)⟩
    · rcases List.mem_append.mp hi with hi | hi
      · exact List.mem_append_left _ hi
      · exact List.mem_append_right _ (List.mem_append_left _ hi)
    · simp only [vws]
      exact List.mem_append_left _ hi
  | false =>
    rw [if_neg Bool.false_ne_true] at he ⊢
    refine ⟨Z1, _, t, env', g1.st, he, fun w Z2 H2 g2 r2 => q w Z2 H2 ((g1.trans g2).mono fun i hi => ?_) (r2.weak (fun i hi => ?_) fun x e => g1.there x e)⟩
    · rcases List.mem_append.mp hi with hi | hi
      · exact List.mem_append_left _ hi
      · exact List.mem_append_right _ (List.mem_append_right _ hi)
    · simp only [vws]
      exact List.mem_append_right _ hi
/-- .. as tests -/
structure WM (X : Cx) (tabs : List Addr) (cf : CF) (e : Expr) (e' : E) : Prop where
  run : okE e' (.val true) = true → PW X e (RdT (kx X tabs) cf e')
theorem PW.weak {X : Cx} {e : Expr} {t t' : TT} (h : PW X e t) (hw : ∀ σ H Q, t' σ H Q → t σ H Q) : PW X e t' := ⟨fun wh pins s σ H Q I q => h.run wh pins s σ H Q I (hw σ H Q q)⟩
theorem wm_and1 (ha : TM X tabs cf a a') : WM X tabs cf (.BoolOp .And [a] pos) a' := ⟨fun ok => pw_and1 (ha.run ok)⟩
theorem wm_or1 (ha : TM X tabs cf a a') : WM X tabs cf (.BoolOp .Or [a] pos) a' := ⟨fun ok => pw_or1 (ha.run ok)⟩
theorem wm_and {rest : List Expr} (ha : TM X tabs cf a a') (hb : WM X tabs cf (.BoolOp .And (b :: rest) pos) b') : WM X tabs cf (.BoolOp .And (a :: b :: rest) pos) (.an a' b') := by
  refine ⟨fun ok => ?_⟩
  simp only [okE, Bool.and_eq_true, Md.vw] at ok
  refine Sw.PW.weak (pw_and (ha.run ok.1) (hb.run ok.2)) fun σ H Q h => ?_
  obtain ⟨Z, env, t, env', st, he, q⟩ := h
  obtain ⟨x0, env0, h0, he⟩ := Res.bind_ok he
  obtain ⟨ht, rfl⟩ := Res.of_ok he
  rw [ev_an] at h0
  obtain ⟨x, env1, h1, h0⟩ := Res.bind_ok h0
  obtain ⟨kk, env2, h2, h0⟩ := Res.bind_ok h0
  obtain ⟨hf, rfl⟩ := Res.of_ok h2
  refine ⟨Z, env, kk, _, st, show (ev cf a' true env).bind _ = _ by rw [h1]; exact h2, fun Z1 H1 g1 => ?_⟩
  cases kk with
  | true =>
    rw [if_pos rfl] at h0 ⊢
    exact ⟨Z1, _, t, _, g1.st, show (ev cf b' true _).bind _ = _ by rw [h0]; exact he, fun Z2 H2 g2 => q Z2 H2 (g1.trans g2)⟩
  | false =>
    rw [if_neg Bool.false_ne_true] at h0 ⊢
    cases h0
    rw [hf] at ht
    cases ht
    exact q Z1 H1 (g1.mono fun i hi => List.mem_append_left _ hi)
theorem wm_or {rest : List Expr} (ha : TM X tabs cf a a') (hb : WM X tabs cf (.BoolOp .Or (b :: rest) pos) b') : WM X tabs cf (.BoolOp .Or (a :: b :: rest) pos) (.oo a' b') := by
  refine ⟨fun ok => ?_⟩
  simp only [okE, Bool.and_eq_true, Md.vw] at ok
  refine Sw.PW.weak (pw_or (ha.run ok.1) (hb.run ok.2)) fun σ H Q h => ?_
  obtain ⟨Z, env, t, env', st, he, q⟩ := h
  obtain ⟨x0, env0, h0, he⟩ := Res.bind_ok he
  obtain ⟨ht, rfl⟩ := Res.of_ok he
  rw [ev_oo] at h0
  obtain ⟨x, env1, h1, h0⟩ := Res.bind_ok h0
  obtain ⟨kk, env2, h2, h0⟩ := Res.bind_ok h0
  obtain ⟨hf, rfl⟩ := Res.of_ok h2
  refine ⟨Z, env, kk, _, st, show (ev cf a' true env).bind _ = _ by rw [h1]; exact h2, fun Z1 H1 g1 => ?_⟩
  cases kk with
  | false =>
    rw [if_neg Bool.false_ne_true] at h0 ⊢
    exact ⟨Z1, _, t, _, g1.st, show (ev cf b' true _).bind _ = _ by rw [h0]; exact he, fun Z2 H2 g2 => q Z2 H2 (g1.trans g2)⟩
  | true =>
    rw [if_pos rfl] at h0 ⊢
    cases h0
    rw [hf] at ht
    cases ht
    exact q Z1 H1 (g1.mono fun i hi => List.mem_append_left _ hi)
theorem tm_wm (h : WM X tabs cf a a') : TM X tabs cf a a' := ⟨fun ok => (h.run ok).pt⟩

/-! ### in, is -/
theorem serves_is {k : Kx} : ServesC k (fun x y H Q => (y = .non ∧ Q (.bl (decide (x = .non))) H) ∨ rIsB x y H Q) .is := by
  intro σ Z H env xs ys x y b v w Q st rx ry e q
  rcases cmpop_inv e with ⟨c, d, ex, ey, e⟩ | ⟨i, zs, _, _, ⟨e, _⟩ | ⟨e, _⟩⟩
  · cases d <;> try (cases e; done)
    · refine .inl ⟨ry.rep ey (fun _ q => by cases q), ?_⟩
      cases e
      cases c with
      | non => rw [show v = .non from rx.rep ex fun _ q => by cases q]; exact q
      | bl _ => rw [rx.bl ex]; exact q
      | int _ => rw [rx.int ex]; exact q
      | str s =>
        obtain ⟨z, rfl, _⟩ := (show ∃ x : Str, v = .str x ∧ _ from rx.rep ex fun _ q => by cases q)
        exact q
      | tup ds => obtain ⟨a, vs, rfl, _⟩ := rx.tup ex; exact q
      | lst ds => obtain ⟨a, vs, rfl, _⟩ := rx.lst ex; exact q
      | ty n => rw [show v = .ty (tyName n) from rx.rep ex fun _ q => by cases q]; exact q
      | pr ds =>
        have hp := rx.rep ex fun _ q => by cases q
        simp only [Rep] at hp
        obtain ⟨a, vs, rfl, _⟩ := hp
        exact q
    · rename_i bb
      cases c <;> try (cases e; done)
      rename_i cc
      cases e
      refine .inr ⟨cc, bb, rx.bl ex, ry.bl ey, ?_⟩
      cases cc <;> cases bb <;> exact q
  · cases e
  · cases e
theorem serves_isn {k : Kx} : ServesC k (fun x y H Q => (y = .non ∧ Q (.bl (!decide (x = .non))) H) ∨ rNotB x y H Q) .isn := by
  intro σ Z H env xs ys x y b v w Q st rx ry e q
  rcases cmpop_inv e with ⟨c, d, ex, ey, e⟩ | ⟨i, zs, _, _, ⟨e, _⟩ | ⟨e, _⟩⟩
  · cases d <;> try (cases e; done)
    · refine .inl ⟨ry.rep ey (fun _ q => by cases q), ?_⟩
      cases e
      cases c with
      | non => rw [show v = .non from rx.rep ex fun _ q => by cases q]; exact q
      | bl _ => rw [rx.bl ex]; exact q
      | int _ => rw [rx.int ex]; exact q
      | str s =>
        obtain ⟨z, rfl, _⟩ := (show ∃ x : Str, v = .str x ∧ _ from rx.rep ex fun _ q => by cases q)
        exact q
      | tup ds => obtain ⟨a, vs, rfl, _⟩ := rx.tup ex; exact q
      | lst ds => obtain ⟨a, vs, rfl, _⟩ := rx.lst ex; exact q
      | ty n => rw [show v = .ty (tyName n) from rx.rep ex fun _ q => by cases q]; exact q
      | pr ds =>
        have hp := rx.rep ex fun _ q => by cases q
        simp only [Rep] at hp
        obtain ⟨a, vs, rfl, _⟩ := hp
        exact q
    · rename_i bb
      cases c <;> try (cases e; done)
      rename_i cc
      cases e
      refine .inr ⟨cc, bb, rx.bl ex, ry.bl ey, ?_⟩
      cases cc <;> cases bb <;> exact q
  · cases e
  · cases e
theorem or_is : OpR X (compareOp .Is) (fun x y H Q => (y = .non ∧ Q (.bl (decide (x = .non))) H) ∨ rIsB x y H Q) := op_isN.or op_isBl
theorem or_isn : OpR X (compareOp .IsNot) (fun x y H Q => (y = .non ∧ Q (.bl (!decide (x = .non))) H) ∨ rNotB x y H Q) := op_notN.or op_notBl

/-! ### a list of expressions: to keep, to look at -/
def RdS (k : Kx) (cf : CF) (e : E) : TA := fun σ H Q => ∃ Z env ds env', StOk k Z H σ env ∧ evs cf e env = .ok ds env' ∧
  ∀ vs Z' H', Go k (tou e .keep) σ Z H env Z' H' env' → RepAll k Z' H' ds vs → Q vs H'
structure SM (X : Cx) (tabs : List Addr) (cf : CF) (es : List Expr) (e' : E) : Prop where
  run : okE e' .keep = true → PA X es (RdS (kx X tabs) cf e')
theorem PA.weak {X : Cx} {e : List Expr} {t t' : TA} (h : PA X e t) (hw : ∀ σ H Q, t' σ H Q → t σ H Q) : PA X e t' := ⟨fun wh pins s σ H Q I q => h.run wh pins s σ H Q I (hw σ H Q q)⟩
theorem sm_nil : SM X tabs cf [] .nil := by
  refine ⟨fun ok => Sw.PA.weak pa_nil fun σ H Q h => ?_⟩
  obtain ⟨Z, env, ds, env', st, he, q⟩ := h
  cases he
  exact q [] Z H (.refl st) (by simp [RepAll])
theorem sm_cons {es : List Expr} (hs : starEach (a :: es) X.env = (false, eval a X.env) :: starEach es X.env) (ha : EM X tabs cf a a') (hb : SM X tabs cf es b') : SM X tabs cf (a :: es) (.cons a' b') := by
  refine ⟨fun ok => ?_⟩
  simp only [okE, Bool.and_eq_true] at ok
  refine Sw.PA.weak (pa_cons (ha.run false ok.1) (hb.run ok.2) hs) fun σ H Q h => ?_
  obtain ⟨Z, env, ds, env', st, he, q⟩ := h
  rw [evs_cons] at he
  obtain ⟨x, env1, h1, he⟩ := Res.bind_ok he
  obtain ⟨ds', env2, h2, he⟩ := Res.bind_ok he
  obtain ⟨hf, rfl⟩ := Res.of_ok he
  refine ⟨Z, env, x, env1, st, h1, fun v Z1 H1 g1 r1 => ?_⟩
  cases hx : x.d with
  | none => rw [hx] at hf; cases hf
  | some d =>
    rw [hx] at hf
    cases hf
    obtain ⟨Z2, g2, r2, z12⟩ := TRep.freeze g1 r1.t hx
    refine ⟨Z2, env1, ds', _, g2.st, h2, fun vs Z3 H3 g3 r3 => q (v :: vs) Z3 H3 (g2.trans g3) ?_⟩
    simp only [RepAll]
    exact ⟨v, vs, rfl, Rep.keep (g3.keepK g2.st) g3.zz d r2, r3⟩
def VAll (k : Kx) (Z : Addr → Prop) (H : Hp) (σ : L2.St) (env : En) : List T → List V → Prop
  | [], vs => vs = []
  | t :: ts, vs => ∃ v r xs, vs = v :: r ∧ VRep k Z H σ env xs t v ∧ VAll k Z H σ env ts r
def RdL (k : Kx) (cf : CF) (e : E) : TA := fun σ H Q => ∃ Z env ts env', StOk k Z H σ env ∧ evt cf e env = .ok ts env' ∧
  ∀ vs Z' H', Go k (tou e .look) σ Z H env Z' H' env' → VAll k Z' H' σ env' ts vs → Q vs H'
structure LM (X : Cx) (tabs : List Addr) (cf : CF) (es : List Expr) (e' : E) : Prop where
  run : okE e' .look = true → PA X es (RdL (kx X tabs) cf e')
theorem lm_nil : LM X tabs cf [] .nil := by
  refine ⟨fun ok => Sw.PA.weak pa_nil fun σ H Q h => ?_⟩
  obtain ⟨Z, env, ds, env', st, he, q⟩ := h
  cases he
  exact q [] Z H (.refl st) rfl
theorem lm_cons {es : List Expr} (hs : starEach (a :: es) X.env = (false, eval a X.env) :: starEach es X.env) (ha : EM X tabs cf a a') (hb : LM X tabs cf es b') : LM X tabs cf (a :: es) (.cons a' b') := by
  refine ⟨fun ok => ?_⟩
  simp only [okE, Bool.and_eq_true] at ok
  refine Sw.PA.weak (pa_cons (ha.run true ok.1) (hb.run ok.2.1) hs) fun σ H Q h => ?_
  obtain ⟨Z, env, ds, env', st, he, q⟩ := h
  rw [evt_cons] at he
  obtain ⟨x, env1, h1, he⟩ := Res.bind_ok he
  obtain ⟨ds', env2, h2, he⟩ := Res.bind_ok he
  cases he
  refine ⟨Z, env, x, env1, st, h1, fun v Z1 H1 g1 r1 => ⟨Z1, env1, ds', _, g1.st, h2, fun vs Z2 H2 g2 r2 => q (v :: vs) Z2 H2 (g1.trans g2) ⟨v, vs, vws a', rfl, ?_, r2⟩⟩⟩
  exact VRep.go g1.st g2 (disj_mem ok.2.2) r1.v
theorem em_tup {es : List Expr} {e' : E} {x1 : Nat} (h : SM X tabs cf es e') : EM X tabs cf (.Tuple es x1 pos) (.tup e') := by
  refine ⟨fun vw ok => Sw.PE.weak (pe_tupX (h.run ok)) fun σ H Q h => ?_⟩
  obtain ⟨Z, env, t, env', st, he, q⟩ := h
  rw [ev_tup] at he
  obtain ⟨ds, env1, h1, he⟩ := Res.bind_ok he
  split at he
  · rename_i hl
    cases he
    refine ⟨Z, env, ds, _, st, h1, fun vs Z1 H1 g1 r1 => ⟨by rw [← RepAll.len _ r1, ← sl_eq]; exact hl, fun p os hp => q _ Z1 _ (g1.new hp) (.im ?_)⟩⟩
    simp only [Rep]
    exact ⟨p, vs, rfl, ⟨_, upd_same, rfl⟩, RepAll.keep (Keep.new hp) (fun _ z => z) _ r1⟩
  · cases he
theorem em_lst {es : List Expr} {e' : E} (h : SM X tabs cf es e') : EM X tabs cf (.List es pos) (.lst e') := by
  refine ⟨fun vw ok => Sw.PE.weak (pe_lst (h.run ok)) fun σ H Q h => ?_⟩
  obtain ⟨Z, env, t, env', st, he, q⟩ := h
  rw [ev_lst] at he
  obtain ⟨ds, env1, h1, he⟩ := Res.bind_ok he
  split at he
  · rename_i hl
    cases he
    refine ⟨Z, env, ds, _, st, h1, fun vs Z1 H1 g1 r1 => ⟨by rw [← RepAll.len _ r1, ← sl_eq]; exact hl, fun p hp => q _ Z1 _ (g1.new hp) (.nu (TRep.made st g1 hp ?_))⟩⟩
    exact ⟨vs, upd_same, RepAll.keep (Keep.new hp) (fun _ z => z) _ r1⟩
  · cases he

/-! ### subscripts -/
theorem ixE_eq (n : Nat) (i : Int) : ixE n i = L2.ixN n i := rfl
theorem atIx_get {k : Kx} {Z : Addr → Prop} {H : Hp} {ds : List D} {vs : List V} {i : Int} {d : D} (r : RepAll k Z H ds vs) (h : atIx ds i = some d) : ∃ v, atI vs i = some v ∧ Rep k Z H d v := by
  unfold atIx at h
  unfold atI
  rw [RepAll.len _ r, ixE_eq] at h
  cases e : L2.ixN vs.length i with
  | none => rw [e] at h; cases h
  | some j =>
    rw [e] at h
    exact RepAll.get _ r h
theorem em_ix (hp : PlainIx b) (ha : EM X tabs cf a a') (hb : EM X tabs cf b b') : EM X tabs cf (.Subscript a b pos) (.ix a' b') := by
  refine ⟨fun vw ok => ?_⟩
  simp only [okE, Bool.and_eq_true] at ok
  obtain ⟨ok1, ok2, ok3⟩ := ok
  refine Sw.PE.weak (pe_ix (ix_list.or ix_tup) (ha.run true ok1) (hb.run true ok2) hp) fun σ H Q h => ?_
  obtain ⟨Z, env, t, env', st, he, q⟩ := h
  rw [ev_ix] at he
  obtain ⟨x, env1, h1, he⟩ := Res.bind_ok he
  obtain ⟨y, env2, h2, he⟩ := Res.bind_ok he
  obtain ⟨hf, rfl⟩ := Res.of_ok he
  refine ⟨Z, env, x, env1, st, h1, fun v Z1 H1 g1 r1 => ⟨Z1, env1, y, _, g1.st, h2, fun w Z2 H2 g2 r2 => ?_⟩⟩
  have r1' := VRep.go g1.st g2 (disj_mem ok3) r1.v
  cases hi : indexT x y with
  | none => rw [hi] at hf; cases hf
  | some d =>
    rw [hi] at hf
    cases hf
    unfold indexT at hi
    split at hi
    · rename_i ds i hx
      obtain ⟨p, vs, rfl, hs, r⟩ := r1'.tup hx
      obtain ⟨u, h3, h4⟩ := atIx_get r hi
      exact .inr ⟨p, vs, i, u, rfl, r2.v.int rfl, hs.sq, h3, q u Z2 H2 (g1.trans g2) (.im h4)⟩
    · rename_i ds i hx
      obtain ⟨p, vs, rfl, hs, r⟩ := r1'.lst hx
      obtain ⟨u, h3, h4⟩ := atIx_get r hi
      exact .inl ⟨p, vs, i, u, rfl, r2.v.int rfl, hs, h3, q u Z2 H2 (g1.trans g2) (.im h4)⟩
    · cases hi

/-! ### built-in functions -/
def ServesB (k : Kx) (r : List V → Hp → VK → Prop) (b : BI) : Prop := ∀ (σ : L2.St) (Z Z2 : Addr → Prop) (H H2 : Hp) (env env2 : En) (tt : List Nat) (ts : List T) (t : T) (vs : List V) (Q : VK), StOk k Z H σ env → Go k tt σ Z H env Z2 H2 env2 →
  VAll k Z2 H2 σ env2 ts vs → bifn b ts = some t → (∀ v' H', Go k tt σ Z H env Z2 H' env2 → TRep k H Z2 H' σ env2 t v' → Q v' H') → r vs H2 Q
theorem em_bi {x : Str} {p : Pos} {es : List Expr} {r : List V → Hp → VK → Prop} {bi : BI} {e' : E} (hp : ∀ (ta : TA), PA X es ta → PE X (.Call (.Name x p) es [] pos) (tCB r ta)) (hw : isWalk bi = false) (hs : ServesB (kx X tabs) r bi) (h : LM X tabs cf es e') : EM X tabs cf (.Call (.Name x p) es [] pos) (.bi bi e') := by
  refine ⟨fun vw ok => ?_⟩
  simp only [okE, hw, Bool.false_eq_true, if_false] at ok
  refine Sw.PE.weak (hp _ (h.run ok)) fun σ H Q h => ?_
  obtain ⟨Z, env, t, env', st, he, q⟩ := h
  rw [ev_bi hw] at he
  obtain ⟨ts, env1, h1, he⟩ := Res.bind_ok he
  obtain ⟨hf, rfl⟩ := Res.of_ok he
  refine ⟨Z, env, ts, _, st, h1, fun vs Z1 H1 g1 r1 => ?_⟩
  have g1' : Go (kx X tabs) (tou (.bi bi e') (.val vw)) σ Z H env Z1 H1 env' := by
    simp only [tou, hw, Bool.false_eq_true, if_false]
    exact g1
  exact hs σ Z Z1 H H1 env _ _ ts t vs Q st g1' r1 hf fun v' H' g r => q v' Z1 H' g (.nu r)
theorem VAll.one {k : Kx} {Z : Addr → Prop} {H : Hp} {σ : L2.St} {env : En} {t : T} {vs : List V} (h : VAll k Z H σ env [t] vs) : ∃ v xs, vs = [v] ∧ VRep k Z H σ env xs t v := by
  obtain ⟨v, r, xs, rfl, h1, rfl⟩ := h
  exact ⟨v, xs, rfl, h1⟩
theorem VAll.two {k : Kx} {Z : Addr → Prop} {H : Hp} {σ : L2.St} {env : En} {t u : T} {vs : List V} (h : VAll k Z H σ env [t, u] vs) : ∃ v w xs ys, vs = [v, w] ∧ VRep k Z H σ env xs t v ∧ VRep k Z H σ env ys u w := by
  obtain ⟨v, r, xs, rfl, h1, w, r2, ys, rfl, h2, rfl⟩ := h
  exact ⟨v, w, xs, ys, rfl, h1, h2⟩
theorem seqOf_d {t : T} {ds : List D} (h : seqOf t = some ds) : t.d = some (.tup ds) ∨ t.d = some (.lst ds) := by
  cases t with
  | im d => cases d <;> first | (cases h; first | exact .inl rfl | exact .inr rfl) | cases h
  | nu o => cases o with
    | l xs => cases h; exact .inr rfl
    | s _ => cases h
theorem VRep.seq {k : Kx} {Z : Addr → Prop} {H : Hp} {σ : L2.St} {env : En} {xs : List Nat} {t : T} {v : V} (h : VRep k Z H σ env xs t v) {ds : List D} (e : seqOf t = some ds) : ∃ a vs, v = .ref a ∧ (SqL k.K H a vs ∨ SqT k.K H a vs) ∧ RepAll k Z H ds vs := by
  rcases seqOf_d e with e | e
  · obtain ⟨a, vs, e1, h1, h2⟩ := h.tup e
    exact ⟨a, vs, e1, .inr h1.sq, h2⟩
  · obtain ⟨a, vs, e1, h1, h2⟩ := h.lst e
    exact ⟨a, vs, e1, .inl h1, h2⟩
theorem oneT_some {f : T → Option T} {ts : List T} {t : T} (h : oneT f ts = some t) : ∃ x, ts = [x] ∧ f x = some t := by
  cases ts with
  | nil => cases h
  | cons x r => cases r with
    | nil => exact ⟨x, rfl, h⟩
    | cons _ _ => cases h
theorem serves_len {k : Kx} : ServesB k (fun xs H Q => (∃ p ys, xs = [.ref p] ∧ (SqL k.K H p ys ∨ SqT k.K H p ys) ∧ Q (.int ys.length) H) ∨ ∃ z, xs = [.str z] ∧ z.length ≤ sizeLine ∧ Q (.int z.length) H) .len := by
  intro σ Z Z2 H H2 env env2 tt ts t vs Q st go r e q
  obtain ⟨x, hx, e9⟩ := oneT_some (show oneT _ ts = some t from e)
  clear e
  subst hx
  have e := e9
  clear e9
  obtain ⟨v, xs, rfl, h⟩ := r.one
  unfold lenT at e
  split at e
  · rename_i ds hs
    cases e
    obtain ⟨a, vs, rfl, h1, h2⟩ := h.seq hs
    refine .inl ⟨a, vs, rfl, h1, ?_⟩
    rw [← RepAll.len _ h2]
    exact q _ _ go TRep.int
  · rename_i hs0
    clear hs0
    split at e
    · rename_i s
      obtain ⟨z, rfl, hz⟩ := (show ∃ x : Str, v = .str x ∧ x.cps.toList = s from h)
      split at e
      · rename_i hl
        cases e
        have e1 : z.length = s.length := by rw [← hz]; simp [Str.length]
        refine .inr ⟨z, rfl, by rw [e1, ← sl_eq]; exact hl, ?_⟩
        rw [e1]
        exact q _ _ go TRep.int
      · cases e
    · cases e
theorem serves_tuple {k : Kx} : ServesB k (rTupX k.K) .tuple := by
  intro σ Z Z2 H H2 env env2 tt ts t vs Q st go r e q
  obtain ⟨x, hx, e9⟩ := oneT_some (show oneT _ ts = some t from e)
  clear e
  subst hx
  have e := e9
  clear e9
  obtain ⟨v, xs, rfl, h⟩ := r.one
  unfold tupT at e
  cases hs : seqOf x with
  | none => rw [hs] at e; cases e
  | some ds =>
    rw [hs] at e
    cases e
    rcases seqOf_d hs with e1 | e1
    · obtain ⟨a, vs, rfl, h1, h2⟩ := h.tup e1
      refine ⟨a, vs, rfl, .inr ⟨h1.sq, q _ _ go ?_⟩⟩
      show Rep _ _ _ (.tup ds) _
      simp only [Rep]
      exact ⟨a, vs, rfl, h1, h2⟩
    · obtain ⟨a, vs, rfl, h1, h2⟩ := h.lst e1
      refine ⟨a, vs, rfl, .inl ⟨h1, fun p os hp => q _ _ (go.new hp) ?_⟩⟩
      show Rep _ _ _ (.tup ds) _
      simp only [Rep]
      exact ⟨p, vs, rfl, ⟨_, upd_same, rfl⟩, RepAll.keep (Keep.new hp) (fun _ z => z) _ h2⟩
theorem serves_list {k : Kx} : ServesB k (fun xs H Q => ∃ p ys, xs = [.ref p] ∧ (SqL k.K H p ys ∨ SqT k.K H p ys) ∧ ∀ l, H l = none → Q (.ref l) (upd H l (.lst ys))) .list := by
  intro σ Z Z2 H H2 env env2 tt ts t vs Q st go r e q
  obtain ⟨x, hx, e9⟩ := oneT_some (show oneT _ ts = some t from e)
  clear e
  subst hx
  have e := e9
  clear e9
  obtain ⟨v, xs, rfl, h⟩ := r.one
  unfold lstT at e
  cases hs : seqOf x with
  | none => rw [hs] at e; cases e
  | some ds =>
    rw [hs] at e
    cases e
    obtain ⟨a, vs, rfl, h1, h2⟩ := h.seq hs
    refine ⟨a, vs, rfl, h1, fun p hp => q _ _ (go.new hp) (TRep.made st go hp ?_)⟩
    exact ⟨vs, upd_same, RepAll.keep (Keep.new hp) (fun _ z => z) _ h2⟩
theorem serves_max {k : Kx} : ServesB k (fun xs H Q => ∃ i j, xs = [.int i, .int j] ∧ Q (.int (if j > i then j else i)) H) .max := by
  intro σ Z Z2 H H2 env env2 tt ts t vs Q st go r e q
  have e2 : maxT ts = some t := e
  clear e
  unfold maxT at e2
  split at e2
  · rename_i i j
    cases e2
    obtain ⟨v, w, xs, ys, rfl, h1, h2⟩ := r.two
    refine ⟨i, j, ?_, q _ _ go TRep.int⟩
    rw [h1.int rfl, h2.int rfl]
  · cases e2
theorem serves_min {k : Kx} : ServesB k (fun xs H Q => ∃ i j, xs = [.int i, .int j] ∧ Q (.int (if j < i then j else i)) H) .min := by
  intro σ Z Z2 H H2 env env2 tt ts t vs Q st go r e q
  have e2 : minT ts = some t := e
  clear e
  unfold minT at e2
  split at e2
  · rename_i i j
    cases e2
    obtain ⟨v, w, xs, ys, rfl, h1, h2⟩ := r.two
    refine ⟨i, j, ?_, q _ _ go TRep.int⟩
    rw [h1.int rfl, h2.int rfl]
  · cases e2
theorem serves_set {k : Kx} : ServesB k (rSet0 k.w) .set := by
  intro σ Z Z2 H H2 env env2 tt ts t vs Q st go r e q
  have e : setT ts = some t := e
  cases ts with
  | cons _ _ => cases e
  | nil =>
    cases e
    obtain rfl : vs = [] := r
    refine ⟨rfl, fun p hp => q _ _ (go.new hp) (TRep.made st go hp ⟨List.nodup_nil, ?_⟩)⟩
    rw [upd_same]
    rfl
theorem ints_map {k : Kx} {Z : Addr → Prop} {H : Hp} : ∀ (ds : List D) {vs : List V} {ns : List Int}, RepAll k Z H ds vs → intsOf ds = some ns → vs = ns.map V.int ∧ ds = ns.map D.int
  | [], vs, ns, r, h => by
    simp only [RepAll] at r
    cases h
    exact ⟨r, rfl⟩
  | d :: ds, vs, ns, r, h => by
    simp only [RepAll] at r
    obtain ⟨v, u, rfl, r1, r2⟩ := r
    cases d with
    | int i =>
      unfold intsOf at h
      cases hn : intsOf ds with
      | none => rw [hn] at h; cases h
      | some ms =>
        rw [hn] at h
        cases h
        obtain ⟨e1, e2⟩ := ints_map ds r2 hn
        have : v = .int i := r1
        subst this
        rw [e1, e2]
        exact ⟨rfl, rfl⟩
    | _ => cases h
/-- sum of a tuple of ints -/
def rSumT (K : PySem.W.Frag) : List V → Hp → VK → Prop := fun vs H Q => ∃ (a : Addr) (ns : List Int), vs = [V.ref a] ∧ SqT K H a (ns.map V.int) ∧ Q (.int ns.sum) H
theorem cr_sumT (hc : X.calm = true) : CallR X (.builtin "sum") (rSumT X.K) := by
  intro pins s σ H vs us Q I r h
  obtain ⟨a, ns, rfl, hs, q⟩ := h
  obtain ⟨its, rv, hl, _⟩ := I.tuple hs
  rw [Vals.ref1 r]
  obtain ⟨xs, e⟩ := rv.ints.allInts.items
  have hn : numsOf (intItems xs).toList = ns := by rw [← e]; exact rv.ints.numsOf
  rw [nums_intItems] at hn
  rw [e] at hl
  have hlt : a < s.heap.objs.size := hl.lt
  have hT : s.heap.IsTuple a (intItems xs) := by
    obtain ⟨o, h1, h2, n, h3⟩ := hl
    exact ⟨o, h1, h2, n, h3⟩
  refine call_sum_walkG (wpAny_pyIter_tuple hT ?_)
  refine ⟨_, [_, a], [_], _, _, _, numAt xs, rfl, Walks.tuple (A := X.A.in1) (I.ok.hd hc) _ a (Nat.ne_of_lt hlt) (intItems xs), ⟨⟨_, Heap.get?_push_size _ rfl, rfl, rfl⟩, ?_⟩, fun b hb => ?_, (fun _ _ => intItems_at), fun h' tk t' hk => ?_⟩
  · obtain ⟨o, h1, h2⟩ := hT
    exact ⟨o, Heap.get?_push_of_some _ h1, h2⟩
  · show b < (s.heap.push _).objs.size
    rw [Heap.size_push]
    rcases List.mem_cons.mp hb with rfl | hb
    · exact Nat.lt_succ_self _
    · rw [List.mem_singleton.mp hb]; exact Nat.lt_succ_of_lt hlt
  · refine ⟨.int _, H, I.kept (t' := tk) fun b o e => hk b o (fun hm => ?_) (Heap.get?_push_of_some _ e), ⟨_, rfl⟩, ?_⟩
    · exact absurd (List.mem_singleton.mp hm) (Nat.ne_of_lt (Heap.lt_size e))
    · rw [preSum_eq, List.take_of_length_le (by simp [intItems]), hn]
      exact q
theorem serves_sum {k : Kx} : ServesB k (fun vs H Q => rSum k.K vs H Q ∨ rSumT k.K vs H Q) .sum := by
  intro σ Z Z2 H H2 env env2 tt ts t vs Q st go r e q
  obtain ⟨x, hx, e9⟩ := oneT_some (show oneT _ ts = some t from e)
  clear e
  subst hx
  have e := e9
  clear e9
  obtain ⟨v, xs, rfl, h⟩ := r.one
  unfold sumT at e
  cases hs : seqOf x with
  | none => rw [hs] at e; cases e
  | some ds =>
    rw [hs] at e
    have e : (intsOf ds).map (fun ns => T.im (.int ns.sum)) = some t := e
    cases hn : intsOf ds with
    | none => rw [hn] at e; cases e
    | some ns =>
      rw [hn] at e
      cases e
      rcases seqOf_d hs with e1 | e1
      · obtain ⟨a, vs, rfl, h1, h2⟩ := h.tup e1
        obtain ⟨rfl, _⟩ := ints_map ds h2 hn
        exact .inr ⟨a, ns, rfl, h1.sq, q _ _ go TRep.int⟩
      · obtain ⟨a, vs, rfl, h1, h2⟩ := h.lst e1
        obtain ⟨rfl, _⟩ := ints_map ds h2 hn
        exact .inl ⟨a, ns, rfl, h1, q _ _ go TRep.int⟩
end
end Sw

set_option Elab.async false
set_option linter.all false
set_option maxRecDepth 100000
/-! Slices, sorted, repr, isinstance. -/
namespace Sw
open PySem PySem.Spec PyProof.Rows L2
section
variable {X : Cx} {tabs : List Addr} {cf : CF} {a b c : Expr} {a' b' c' : E} {pos : Pos}
theorem asOi_of {r : Res T} : asOi (post .bound r) = (asT (post (.val true) r)).bind fun t env => Res.of ((intOf t).map some) env := by rw [asT_post]; exact asOi_post
theorem asDs_of {r : Res T} : asDs (post .walk r) = (asT (post (.val false) r)).bind fun t env => Res.of (seqOf t) env := by rw [asT_post]; exact asDs_post
/-- not a list of expressions -/
def single : E → Bool
  | .nil => false
  | .cons _ _ => false
  | _ => true
theorem evo_eq {e : E} {env : En} (h : single e = true) : evo cf e env = (ev cf e true env).bind fun x env => Res.of ((intOf x).map some) env := by
  cases e with
  | nil => cases h
  | cons _ _ => cases h
  | bi b es =>
    by_cases hw : isWalk b = true
    · have h1 : evo cf (.bi b es) env = .bad := by
        unfold evo
        rw [ev1, if_pos hw]
        rfl
      have h2 : ev cf (.bi b es) true env = .bad := by
        unfold ev
        rw [ev1, if_pos hw]
        rfl
      rw [h1, h2]
    · rw [ev_bi (by simpa using hw)]
      unfold evo
      rw [ev1, if_neg hw]
      exact asOi_post
  | _ => exact asOi_of
theorem evi_eq {e : E} {env : En} (h : single e = true) (hb : ∀ b es, e = .bi b es → isWalk b = false) : evi cf e env = (ev cf e false env).bind fun x env => Res.of (seqOf x) env := by
  cases e with
  | nil => cases h
  | cons _ _ => cases h
  | bi b es =>
    have hw := hb b es rfl
    rw [ev_bi hw]
    unfold evi
    rw [ev1, if_neg (by rw [hw]; exact Bool.false_ne_true)]
    exact asDs_post
  | _ => exact asDs_of
def RdO (k : Kx) (cf : CF) (e : E) : TO := fun σ H Q => ∃ Z env o env', StOk k Z H σ env ∧ evo cf e env = .ok o env' ∧ ∀ Z' H', Go k (tou e .bound) σ Z H env Z' H' env' → Q o H'
structure BM (X : Cx) (tabs : List Addr) (cf : CF) (o : Option Expr) (e' : E) : Prop where
  run : okE e' .bound = true → PO X o (RdO (kx X tabs) cf e')
theorem PO.weak {X : Cx} {e : Option Expr} {t t' : TO} (h : PO X e t) (hw : ∀ σ H Q, t' σ H Q → t σ H Q) : PO X e t' := ⟨fun pins s σ H Q I q => h.run pins s σ H Q I (hw σ H Q q)⟩
theorem bm_none : BM X tabs cf none .nil := by
  refine ⟨fun ok => Sw.PO.weak po_none fun σ H Q h => ?_⟩
  obtain ⟨Z, env, o, env', st, he, q⟩ := h
  cases he
  exact q Z H (.refl st)
theorem tou_bound {e : E} : tou e .bound = tou e (.val true) ∨ single e = false := by
  cases e <;> first | exact .inl rfl | exact .inr rfl
theorem okE_bound {e : E} : okE e .bound = okE e (.val true) ∨ single e = false := by
  cases e <;> first | exact .inl rfl | exact .inr rfl
theorem bm_some (hs : single a' = true) (ha : EM X tabs cf a a') : BM X tabs cf (some a) a' := by
  refine ⟨fun ok => ?_⟩
  rcases okE_bound (e := a') with o1 | o1
  · rw [o1] at ok
    refine Sw.PO.weak (po_some (ha.run true ok)) fun σ H Q h => ?_
    obtain ⟨Z, env, o, env', st, he, q⟩ := h
    rw [evo_eq hs] at he
    obtain ⟨x, env1, h1, he⟩ := Res.bind_ok he
    obtain ⟨hf, rfl⟩ := Res.of_ok he
    refine ⟨Z, env, x, _, st, h1, fun v Z1 H1 g1 r1 => ?_⟩
    cases x with
    | nu o => cases hf
    | im d => cases d with
      | int i =>
        cases hf
        refine ⟨i, r1.v.int rfl, q Z1 H1 ?_⟩
        rcases tou_bound (e := a') with t1 | t1
        · rw [t1]; exact g1
        · rw [hs] at t1; cases t1
      | _ => cases hf
  · rw [hs] at o1; cases o1
theorem clip_eq (n d : Nat) (o : Option Int) : clip n d o = HT.sIx n d o := by cases o <;> rfl
theorem cut_rep {k : Kx} {Z : Addr → Prop} {H : Hp} {ds : List D} {vs : List V} (r : RepAll k Z H ds vs) (lo hi : Option Int) : RepAll k Z H (cut ds lo hi) (cutV vs lo hi) := by
  unfold cut cutV
  rw [clip_eq, clip_eq, RepAll.len _ r]
  exact RepAll.take _ _ (RepAll.drop _ _ r)
/-- t[lo:hi], the new object known; the whole of it is t itself -/
def rSlX (K : PySem.W.Frag) : V → Option Int → Option Int → Hp → VK → Prop := fun x lo hi H Q => ∃ a xs, x = .ref a ∧ SqT K H a xs ∧
  (HT.sIx xs.length 0 lo = 0 ∧ HT.sIx xs.length xs.length hi = xs.length → Q (.ref a) H) ∧ (¬ (HT.sIx xs.length 0 lo = 0 ∧ HT.sIx xs.length xs.length hi = xs.length) → ∀ p us, H p = none → Q (.ref p) (upd H p (.frz (tupO us) (.tup (cutV xs lo hi)))))
theorem sl_tupX : SlR X (rSlX X.K) := by
  intro pins s σ H x v vl vu lo hi sl Q I rx hs pl pu h
  obtain ⟨a, xs, rfl, hx, q1, q2⟩ := h
  cases rx
  obtain ⟨its, r, ht, hz⟩ := I.tuple hx
  have hlen : its.toArray.size = xs.length := by rw [List.size_toArray]; exact r.length.symm
  refine ⟨"tuple", _, PyProof.Rows.slot_tuple_getitem.lookup, ht.typeIs, ?_⟩
  by_cases hw : HT.sIx xs.length 0 lo = 0 ∧ HT.sIx xs.length xs.length hi = xs.length
  · exact getItem_tuple_whole ht hs pl pu (by rw [hlen]; exact hw) ⟨.ref a, H, I, rfl, q1 hw⟩
  · refine HT.getItem_tuple_cut ht hs pl pu (by rw [hlen]; exact hw) ?_ (by rw [hlen]; exact hz)
    rw [hlen]
    exact ⟨.ref s.heap.objs.size, _, layT (tk := s.toks) I (fun b ob q => Heap.get?_push_of_some _ q) (Nat.le_trans (cutV_length xs lo hi) hz) ((r.drop (HT.sIx xs.length 0 lo)).take (HT.sIx xs.length xs.length hi - HT.sIx xs.length 0 lo)) (Nat.le_refl _) (Heap.get?_push_size _ rfl), rfl, q2 hw _ _ (I.hok.fresh (Nat.le_refl _))⟩
theorem em_sl {lo hi : Option Expr} {l' h' : E} {p2 : Pos} (ha : EM X tabs cf a a') (hl : BM X tabs cf lo l') (hh : BM X tabs cf hi h') : EM X tabs cf (.Subscript a (.Slice lo hi none p2) pos) (.sl a' l' h') := by
  refine ⟨fun vw ok => ?_⟩
  simp only [okE, Bool.and_eq_true] at ok
  obtain ⟨ok1, ok2, ok3, ok4⟩ := ok
  refine Sw.PE.weak (pe_slice (sl_list.or sl_tupX) (ha.run true ok1) (hl.run ok2) (hh.run ok3)) fun σ H Q h => ?_
  obtain ⟨Z, env, t, env', st, he, q⟩ := h
  rw [ev_sl] at he
  obtain ⟨x, env1, h1, he⟩ := Res.bind_ok he
  obtain ⟨ol, env2, h2, he⟩ := Res.bind_ok he
  obtain ⟨oh, env3, h3, he⟩ := Res.bind_ok he
  obtain ⟨hf, rfl⟩ := Res.of_ok he
  refine ⟨Z, env, x, env1, st, h1, fun v Z1 H1 g1 r1 => ⟨Z1, env1, ol, env2, g1.st, h2, fun Z2 H2 g2 => ⟨Z2, env2, oh, _, g2.st, h3, fun Z3 H3 g3 => ?_⟩⟩⟩
  have r1' := VRep.go g1.st (g2.trans g3) (disj_mem ok4) r1.v
  have g := g1.trans (g2.trans g3)
  unfold sliceT at hf
  split at hf
  · rename_i ds hx
    cases hf
    obtain ⟨p, vs, rfl, hs, r⟩ := r1'.tup hx
    refine .inr ⟨p, vs, rfl, hs.sq, fun hw => q _ Z3 H3 g (.im ?_), fun _ p2 os hp => q _ Z3 _ (g.new hp) (.im ?_)⟩
    · have e : cut ds ol oh = ds := by
        unfold cut
        rw [clip_eq, clip_eq, RepAll.len _ r, hw.1, hw.2, List.drop_zero, Nat.sub_zero, ← RepAll.len _ r, List.take_length]
      rw [e]
      simp only [Rep]
      exact ⟨p, vs, rfl, hs, r⟩
    · simp only [Rep]
      exact ⟨p2, _, rfl, ⟨_, upd_same, rfl⟩, RepAll.keep (Keep.new hp) (fun _ z => z) _ (cut_rep r ol oh)⟩
  · rename_i ds hx
    cases hf
    obtain ⟨p, vs, rfl, hs, r⟩ := r1'.lst hx
    refine .inl ⟨p, vs, rfl, hs, fun p2 hp => q _ Z3 _ (g.new hp) (.nu (TRep.made st g hp ?_))⟩
    exact ⟨_, upd_same, RepAll.keep (Keep.new hp) (fun _ z => z) _ (cut_rep r ol oh)⟩
  · cases hf
end
end Sw

set_option Elab.async false
set_option linter.all false
set_option maxRecDepth 100000
/-! sorted of a tuple of pairs. -/
namespace Sw
open PySem PySem.Spec PyProof.Rows L2 SrtO
section
variable {prog : Program} {w : World} {A : Around} {E : Value → Shared → Prop} {s : Shared}
theorem gather_tup {p : Addr} {us : List Value} {Q : List Value → Shared → Prop} (ht : IsTup s.heap p us.toArray)
    (h : Q us { s with heap := (s.heap.push (seqObj "list" #[] 0)).update s.heap.objs.size (Obj.mapSeq (· ++ us.toArray)) }) (hz : us.length ≤ sizeLine) : wpAny (model prog w) A (collect (.ref p)) Q E s := by
  obtain ⟨ob, hob, hcl, m, hdt⟩ := ht
  unfold collect
  refine wpAny_bind (wpAny_runValue (codeAny_builtin entry_proto_collect' ?_))
  show wpAny _ _ (do again (.builtin "list.__iadd__" ⟨[← newList [], .ref p], []⟩)) _ _ s
  refine wpAny_bind (wpAny_newList (wpAny_pure ⟨Code.quiet_builtin _ (by decide +kernel), codeAny_builtin entry_list_iadd' ?_⟩))
  show wpAny _ _ (Builtin.List.listExtendWith (.ref s.heap.objs.size) (.ref p) (.ref s.heap.objs.size)) _ _ { s with heap := s.heap.push (seqObj "list" #[] 0) }
  unfold Builtin.List.listExtendWith
  have hob2 : (s.heap.push (seqObj "list" #[] 0)).get? p = some ob := Heap.get?_push_of_some _ hob
  refine wpAny_bind (wpAny_typeOf (T := "tuple") ⟨ob, hob2, hcl⟩ ?_)
  have tt : (Value.type "tuple" == Value.type "tuple") = true := by rfl
  rw [if_pos (by rw [tt]; simp)]
  refine wpAny_bind (listItems_at hob2 hdt ?_)
  refine wpAny_bind (listItems_at (xs := #[]) (n := 0) (Heap.get?_push_size _ rfl) rfl ?_)
  rw [if_neg (by simp)]
  refine wpAny_bind (listUpdate_at (xs := #[]) (n := 0) (Heap.get?_push_size _ rfl) rfl ?_ (Nat.zero_le _) (by show (#[] ++ us.toArray).size ≤ sizeLine + 1; simp only [Array.size_append, List.size_toArray, List.length_nil]; omega))
  refine wpAny_pure ?_
  show wpAny (model prog w) A (load s.heap.objs.size >>= _) Q E { s with heap := (s.heap.push (seqObj "list" #[] 0)).update s.heap.objs.size (Obj.mapSeq (· ++ us.toArray)) }
  refine wpAny_bind (wpAny_load (get?_update_seq (Heap.get?_push_size _ rfl) _) ?_)
  show wpAny _ _ (pure ((#[] : Array Value) ++ us.toArray).toList) Q E _
  rw [show ((#[] : Array Value) ++ us.toArray).toList = us by simp]
  exact wpAny_pure h
theorem sortedT_ord {p : Addr} {us : List Value} {lt : Value → Value → Bool} {Q : Value → Shared → Prop} (O : Swo lt) (ht : IsTup s.heap p us.toArray) (hz : us.length ≤ sizeLine)
    (hS : 2 ≤ us.length → ∀ (g : Heap) (a : Addr), g.get? a = some (seqObj "list" us.toArray 0) → (∀ b o, s.heap.get? b = some o → b ≠ a ∧ g.get? b = some o) → SortableO prog w A.in1.in1 { s with heap := g } a us lt)
    (h : ∀ out : List Value, Srtd lt out → Stb lt out us → Q (.ref (s.heap.objs.size + 1)) { s with heap := sortedAll s.heap us out.toArray }) : wpAny (model prog w) A (call (.builtin "sorted") [.ref p]) Q E s := by
  refine Calls.call_function_entry kind_sorted plain_sorted entry_sorted (args_sorted1 _) ?_
  unfold Builtin.«sorted»
  refine wpAny_bind (m := checkCount "sorted" 1 1 _) (wpAny_pure ?_)
  refine wpAny_bind (gather_tup ht ?_ hz)
  refine wpAny_bind (wpAny_newList ?_ hz)
  generalize hh : (s.heap.push (seqObj "list" #[] 0)).update s.heap.objs.size (Obj.mapSeq (· ++ us.toArray)) = hp
  have sz : hp.objs.size = s.heap.objs.size + 1 := by rw [← hh, Heap.size_update, size_push']
  have new : (hp.push (seqObj "list" us.toArray 0)).get? (s.heap.objs.size + 1) = some (seqObj "list" us.toArray 0) := by
    rw [← sz]; exact Heap.get?_push_size _ rfl
  have old : ∀ b o, s.heap.get? b = some o → b ≠ s.heap.objs.size + 1 ∧ (hp.push (seqObj "list" us.toArray 0)).get? b = some o := fun b o q => by
    have hlt : b < s.heap.objs.size := Heap.lt_size q
    refine ⟨Nat.ne_of_lt (Nat.lt_succ_of_lt hlt), Heap.get?_push_of_some _ ?_⟩
    rw [← hh, Heap.get?_update_ne _ _ _ _ (Nat.ne_of_lt hlt)]
    exact Heap.get?_push_of_some _ q
  show wpAny _ _ _ _ _ { s with heap := hp.push (seqObj "list" us.toArray 0) }
  rw [sz]
  refine wpAny_bind (wpAny_holding (wpAny_call_entry slot_list_sort ⟨_, new, rfl⟩ entry_list_sort (list_sort_ord O new hz (fun h2 => hS h2 _ _ new old) fun out hs hb => ⟨_, rfl, ?_⟩) (args_list_sort _)))
  refine wpAny_pure ⟨_, rfl, ?_⟩
  have q := h out hs hb
  unfold sortedAll at q
  rw [hh] at q
  exact q
theorem sortedT_pairs {p : Addr} {us : List Value} {k : Value → Int × Int} {Q : Value → Shared → Prop} (ht : IsTup s.heap p us.toArray) (hz : us.length ≤ sizeLine) (hp : ∀ v ∈ us, Srt.IsPair s.heap v (k v).1 (k v).2)
    (h : ∀ (g : Heap) (d : Addr) (out : List Value), Srtd (fun v u => lexB (k v) (k u)) out → Stb (fun v u => lexB (k v) (k u)) out us → (∀ b o, s.heap.get? b = some o → g.get? b = some o) → s.heap.objs.size ≤ d → (∃ n, g.get? d = some (seqObj "list" out.toArray n)) → Q (.ref d) { s with heap := g }) :
    wpAny (model prog w) A (call (.builtin "sorted") [.ref p]) Q E s := by
  refine sortedT_ord (swo_lex k) ht hz (fun h2 g a ha kk => ?_) fun out hs hb => ?_
  · refine pairs_sortableO (s := { s with heap := g }) (by omega) (fun v hm => (hp v hm).keeps fun b o e _ => (kk b o e).2) fun o e => ?_
    have e1 : some o = some (seqObj "list" us.toArray 0) := e.symm.trans ha
    cases e1
    intro c
    exact absurd (Value.type.inj c) (by decide)
  · exact h _ _ out hs hb (fun b o e => sortedAll_old e) (Nat.le_succ _) (sortedAll_at s.heap us out.toArray)
end
/-- sorted(t), t a tuple of pairs of whole numbers -/
def rSortedPT (K : PySem.W.Frag) : List V → Hp → VK → Prop := fun vs H Q => ∃ (a : Addr) (xs : List V) (k : V → Int × Int), vs = [V.ref a] ∧ SqT K H a xs ∧ (∀ x ∈ xs, ∃ t, x = V.ref t ∧ TupX H t [.int (k x).1, .int (k x).2]) ∧
  ∀ ys p, Srtd (ltP k) ys → Stb (ltP k) ys xs → H p = none → Q (.ref p) (upd H p (.lst ys))
theorem cr_sortedPT {X : Cx} : CallR X (.builtin "sorted") (rSortedPT X.K) := by
  intro pins s σ H vs us Q I r h
  obtain ⟨a, xs, k, rfl, hs, hx, q⟩ := h
  obtain ⟨its, rv, hl, hz⟩ := I.tuple hs
  obtain ⟨u, rfl, ru⟩ := vals1 r
  obtain rfl : u = Value.ref a := ru
  obtain ⟨f1, f2⟩ := refs_back rv fun x m => by
    obtain ⟨t, e, _⟩ := hx x m
    exact ⟨t, e⟩
  refine sortedT_pairs (k := fun u => k (backV u)) hl (by rw [← rv.length]; exact hz) (fun v hv => ?_) fun g d out h1 h2 kp hd hn => ?_
  · obtain ⟨t, rfl⟩ := f2 v hv
    have hm : V.ref t ∈ xs := by rw [f1]; exact List.mem_map.mpr ⟨_, hv, rfl⟩
    obtain ⟨t', e, ob, ht, _⟩ := hx _ hm
    cases e
    obtain ⟨_, _, its2, r2, o, ho, hc, n, hd⟩ := I.hok _ _ ht
    obtain ⟨u1, u2, rfl, ri, rj⟩ := vals2 r2
    obtain ⟨t1, rfl⟩ := ri
    obtain ⟨t2, rfl⟩ := rj
    exact ⟨t, o, t1, t2, n, rfl, ho, hc, hd⟩
  · have h3 : ∀ u ∈ out, ∃ a, u = Value.ref a := fun u hu => f2 u (h2.perm.mem_iff.mp hu)
    obtain ⟨n, hn⟩ := hn
    have hb : Stb (ltP k) (out.map backV) xs := by
      rw [f1]
      exact SrtO.Stb.map (ltP_swo k) backV h2
    refine ⟨.ref d, upd H d (.lst (out.map backV)), I.laid (t' := s.toks) kp hd ⟨?_, out, n, vals_back h3, hn⟩, rfl, q _ d (SrtO.srtd_map h1) hb (I.hok.fresh hd)⟩
    rw [hb.len]
    exact hz
/-- sorted(l), l a list of pairs of whole numbers -/
def rSortedPL (K : PySem.W.Frag) : List V → Hp → VK → Prop := fun vs H Q => ∃ (a : Addr) (xs : List V) (k : V → Int × Int), vs = [V.ref a] ∧ SqL K H a xs ∧ (∀ x ∈ xs, ∃ t, x = V.ref t ∧ TupX H t [.int (k x).1, .int (k x).2]) ∧
  ∀ ys p, Srtd (ltP k) ys → Stb (ltP k) ys xs → H p = none → Q (.ref p) (upd H p (.lst ys))
theorem cr_sortedPL {X : Cx} : CallR X (.builtin "sorted") (rSortedPL X.K) := by
  intro pins s σ H vs us Q I r h
  obtain ⟨a, xs, k, rfl, hs, hx, q⟩ := h
  obtain ⟨its, rv, hl, hz⟩ := I.list hs
  obtain ⟨u, rfl, ru⟩ := vals1 r
  obtain rfl : u = Value.ref a := ru
  obtain ⟨f1, f2⟩ := refs_back rv fun x m => by
    obtain ⟨t, e, _⟩ := hx x m
    exact ⟨t, e⟩
  refine SrtO.sorted_pairsO (k := fun u => k (backV u)) hl.isList (by rw [← rv.length]; exact hz) (fun v hv => ?_) fun g d out h1 h2 kp hd hn => ?_
  · obtain ⟨t, rfl⟩ := f2 v hv
    have hm : V.ref t ∈ xs := by rw [f1]; exact List.mem_map.mpr ⟨_, hv, rfl⟩
    obtain ⟨t2, e, ob, ht, _⟩ := hx _ hm
    cases e
    obtain ⟨_, _, its2, r2, o, ho, hc, n, hd⟩ := I.hok _ _ ht
    obtain ⟨u1, u2, rfl, ri, rj⟩ := vals2 r2
    obtain ⟨k1, rfl⟩ := ri
    obtain ⟨k2, rfl⟩ := rj
    exact ⟨t, o, k1, k2, n, rfl, ho, hc, hd⟩
  · have h3 : ∀ u ∈ out, ∃ a, u = Value.ref a := fun u hu => f2 u (h2.perm.mem_iff.mp hu)
    obtain ⟨n, hn⟩ := hn
    have hb : Stb (ltP k) (out.map backV) xs := by
      rw [f1]
      exact SrtO.Stb.map (ltP_swo k) backV h2
    refine ⟨.ref d, upd H d (.lst (out.map backV)), I.laid (t' := s.toks) kp hd ⟨?_, out, n, vals_back h3, hn⟩, rfl, q _ d (SrtO.srtd_map h1) hb (I.hok.fresh hd)⟩
    rw [hb.len]
    exact hz
/-- sorted(t), t a tuple of whole numbers -/
def rSortedIT (K : PySem.W.Frag) : List V → Hp → VK → Prop := fun vs H Q => ∃ (a : Addr) (ns : List Int), vs = [V.ref a] ∧ SqT K H a (ns.map V.int) ∧
  ∀ (ns' : List Int) (p : Addr), ns'.Perm ns → ns'.Pairwise (· ≤ ·) → H p = none → Q (.ref p) (upd H p (.lst (ns'.map V.int)))
theorem cr_sortedIT {X : Cx} : CallR X (.builtin "sorted") (rSortedIT X.K) := by
  intro pins s σ H vs us Q I r h
  obtain ⟨a, ns, rfl, hs, q⟩ := h
  obtain ⟨its, rv, hl, hz⟩ := I.tuple hs
  obtain ⟨u, rfl, ru⟩ := vals1 r
  obtain rfl : u = Value.ref a := ru
  have hi := rv.ints
  refine sortedT_ord SrtO.swo_int hl (by rw [← rv.length]; exact hz) (fun h2 g a' _ _ => SrtO.ints_sortable hi h2) fun out h1 h2 => ?_
  obtain ⟨k1, k2, k3⟩ := SrtO.ints_out hi h1 h2
  obtain ⟨ep, he'⟩ := PyProof.Rows.sortedAll_at s.heap its out.toArray
  have hlen : ((out.map SrtO.iv).map V.int).length ≤ sizeLine := by
    rw [List.length_map, k2.length_eq]
    rw [List.length_map] at hz
    exact hz
  exact ⟨.ref _, upd H (s.heap.objs.size + 1) (.lst ((out.map SrtO.iv).map V.int)), I.laid (t' := s.toks) (fun _ _ => PyProof.Rows.sortedAll_old) (Nat.le_succ _) ⟨hlen, out, ep, vals_of_ints k1, he'⟩, rfl, q _ _ k2 k3 (I.hok.fresh (Nat.le_succ _))⟩
end Sw

set_option Elab.async false
set_option linter.all false
set_option maxRecDepth 100000
/-! x[::-1], sorted, repr, isinstance. -/
namespace HT
open PySem PySem.Spec PyProof.Rows
section
variable {prog : Program} {w : World} {A : Around} {E : Value → Shared → Prop} {s : Shared}
theorem sw_adjust (n : Nat) : Builtin.Slice.sliceAdjust none none (-1) (n : Int) = ((n : Int) - 1, -1) := by
  unfold Builtin.Slice.sliceAdjust
  simp
theorem sw_places (n : Nat) : Builtin.Slice.slicePlaces ((n : Int) - 1) (-1) (-1) = n := by
  unfold Builtin.Slice.slicePlaces
  rw [if_neg (by decide)]
  by_cases h : n = 0
  · subst h; rfl
  · rw [if_pos (by omega), show (- -1 : Int) = 1 by decide, Int.ediv_one]
    omega
theorem sw_pick (xs : Array Value) : ((List.range xs.size).filterMap fun (m : Nat) => xs[(((xs.size : Nat) : Int) - 1 + (m : Int) * (-1)).toNat]?).toArray = xs.toList.reverse.toArray := by
  congr 1
  have e : ∀ m ∈ List.range xs.size, xs[(((xs.size : Nat) : Int) - 1 + (m : Int) * (-1)).toNat]? = xs.toList.reverse[m]? := fun m hm => by
    have hm := List.mem_range.mp hm
    rw [List.getElem?_reverse (by simpa using hm)]
    have : (((xs.size : Nat) : Int) - 1 + (m : Int) * (-1)).toNat = xs.toList.length - 1 - m := by
      rw [Array.length_toList]
      omega
    rw [this, Array.getElem?_toList]
  have h2 : (List.range xs.size).filterMap (fun (m : Nat) => xs[(((xs.size : Nat) : Int) - 1 + (m : Int) * (-1)).toNat]?) = (List.range xs.size).filterMap (fun m => xs.toList.reverse[m]?) := by
    have gen : ∀ (l : List Nat) (f g : Nat → Option Value), (∀ m ∈ l, f m = g m) → l.filterMap f = l.filterMap g := by
      intro l
      induction l with
      | nil => intro f g _; rfl
      | cons x r ih =>
        intro f g h
        rw [List.filterMap_cons, List.filterMap_cons, h x List.mem_cons_self, ih f g fun m hm => h m (List.mem_cons_of_mem _ hm)]
    exact gen _ _ _ e
  rw [h2]
  have hl : xs.size = xs.toList.reverse.length := by simp
  rw [hl]
  generalize xs.toList.reverse = l
  clear hl h2 e
  apply List.ext_getElem?
  intro i
  have : (List.range l.length).filterMap (fun m => l[m]?) = l := by
    induction l with
    | nil => rfl
    | cons x r ih =>
      rw [List.length_cons, List.range_succ_eq_map, List.filterMap_cons]
      simp only [List.getElem?_cons_zero]
      rw [List.filterMap_map]
      congr 1
  rw [this]
theorem sw_getItem {t sl : Addr} {items : Array Value} {vl vu vs : Value} {Q : Value → Shared → Prop} (ht : IsTup s.heap t items) (hs : s.heap.IsSliceOf sl vl vu vs) (pl : IsPart vl none) (pu : IsPart vu none) (ps : IsPart vs (some (-1)))
    (h : Q (.ref s.heap.objs.size) { s with heap := s.heap.push { cls := .type "tuple", data := .seq items.toList.reverse.toArray } })
    (hsz : items.size ≤ sizeLine) : wpAny (model prog w) A (getItem (.ref t) (.ref sl)) Q E s := by
  have htake : sizeOk (.seq items.toList.reverse.toArray) := by
    show items.toList.reverse.toArray.size ≤ sizeLine
    simpa using hsz
  obtain ⟨os, hos, hcs, hds⟩ := id hs
  have hTs : s.TypeIs (.ref sl) "slice" := ⟨os, hos, hcs⟩
  unfold getItem
  try with_reducible refine wpAny_holding ?_
  first | refine wpAny_bind (wpAny_pure ?_) | skip
  refine wpAny_bind (wpAny_sequenceKey ht.typeIs (by decide) ?_)
  refine wpAny_bind (wpAny_callSpecial?_slot (name := Str.ofString "__getitem__") ht.typeIs PyProof.Rows.slot_tuple_getitem
    (wpAny_call_entry PyProof.Rows.slot_tuple_getitem ht.typeIs entry_tuple_getitem ?_ (args_tuple_getitem _ _)))
  show wpAny _ _ (Builtin.Tuple.tupleItemsOf (.ref t) >>= _) _ _ s
  refine wpAny_bind (tupleItemsOf_ ht ?_)
  refine wpAny_bind (wpAny_typeOf hTs ?_)
  rw [if_pos (by decide)]
  refine wpAny_bind ?_
  unfold Builtin.Slice.sliceApplied Builtin.Slice.sliceFields
  refine wpAny_bind (wpAny_bind (wpAny_field hos hds (x := vl) rfl (wpAny_bind (wpAny_field hos hds (x := vu) rfl (wpAny_bind (wpAny_field hos hds (x := vs) rfl (wpAny_pure ?_)))))))
  refine wpAny_bind (slicePart_ ps ?_)
  show wpAny _ _ (if ((-1 : Int) == 0) = true then _ else _) _ _ s
  rw [if_neg (by decide)]
  refine wpAny_bind (slicePart_ pl (wpAny_bind (slicePart_ pu (wpAny_bind (wpAny_pure ?_)))))
  show wpAny _ _ (match Builtin.Slice.sliceAdjust none none (-1) ((items.size : Nat) : Int) with | (lo, hi) => pure (lo, (-1 : Int), Builtin.Slice.slicePlaces lo hi (-1))) _ _ s
  rw [sw_adjust]
  show wpAny _ _ (pure (((items.size : Nat) : Int) - 1, (-1 : Int), Builtin.Slice.slicePlaces (((items.size : Nat) : Int) - 1) (-1) (-1))) _ _ s
  rw [sw_places]
  refine wpAny_pure ?_
  have hno : ¬ (((((items.size : Nat) : Int) - 1) == 0 && (-1 : Int) == 1 && items.size == items.size) = true) := by
    intro q
    rw [Bool.and_eq_true, Bool.and_eq_true] at q
    exact absurd q.1.2 (by decide)
  show wpAny _ _ (if ((((items.size : Nat) : Int) - 1) == 0 && (-1 : Int) == 1 && items.size == items.size) = true then _ else _) _ _ s
  rw [if_neg hno, sw_pick]
  first
    | exact wpAny_bind (m := Builtin.Tuple.tupleExact _) (wpAny_newObj_type (wpAny_pure ⟨_, rfl, wpAny_pure h⟩) htake)
    | exact wpAny_bind (m := Builtin.Tuple.tupleExact _) (wpAny_newObj_type (wpAny_bind (wpAny_pure (wpAny_pure ⟨_, rfl, wpAny_pure h⟩))) htake)
    | exact wpAny_bind (wpAny_bind (m := Builtin.Tuple.tupleExact _) (wpAny_newObj_type (wpAny_pure (wpAny_pure ⟨_, rfl, wpAny_pure h⟩)) htake))
    | exact wpAny_bind (wpAny_bind (m := Builtin.Tuple.tupleExact _) (wpAny_newObj_type (wpAny_pure ⟨_, rfl, wpAny_pure h⟩) htake))
end
end HT
namespace Sw
open PySem PySem.Spec PyProof.Rows L2
section
variable {X : Cx} {tabs : List Addr} {cf : CF} {a b c : Expr} {a' b' c' : E} {pos : Pos}
def tRev (K : PySem.W.Frag) (te : TE) : TE := fun σ H Q => te σ H fun x H1 => ∃ a xs, x = .ref a ∧ ((SqL K H1 a xs ∧ ∀ p, H1 p = none → Q (.ref p) (upd H1 p (.lst xs.reverse))) ∨ (SqT K H1 a xs ∧ ∀ p us, H1 p = none → Q (.ref p) (upd H1 p (.frz (tupO us) (.tup xs.reverse)))))
theorem pe_rev {e : Expr} {te : TE} {k : Nat} {p1 p2 p3 pos : Pos} (he : PE X e te) : PE X (.Subscript e (.Slice none none (some (.UnaryOp .USub (.Constant (.int 1) k p1) p2)) p3) pos) (tRev X.K te) := by
  refine ⟨fun pins s σ H Q I h => ?_⟩
  refine Subscript_ (thn (he.run pins s σ H _ I h) fun v s1 ⟨x, H1, I1, r1, q1⟩ => ?_)
  obtain ⟨a, xs, ex, q⟩ := q1
  subst ex
  cases r1
  have hst : PO X (some (.UnaryOp .USub (.Constant (.int 1) k p1) p2)) (tPart (tUn (rU fun i => .int (-i)) (tC (.int 1)))) := po_some (pe_un un_neg pe_int)
  refine wpAny_Slice (thn (po_none.run pins s1 σ H1 (fun o H2 => o = none ∧ H2 = H1) I1 ⟨rfl, rfl⟩) fun vl s2 ⟨l, H2, I2, pl, el, e2⟩ => ?_)
  subst el e2
  refine thn (po_none.run pins s2 σ H2 (fun o H3 => o = none ∧ H3 = H2) I2 ⟨rfl, rfl⟩) fun vu s3 ⟨u, H3, I3, pu, eu, e3⟩ => ?_
  subst eu e3
  refine thn (hst.run pins s3 σ H3 (fun o H4 => o = some (-1) ∧ H4 = H3) I3 ⟨1, rfl, -1, rfl, rfl, rfl⟩) fun vs s4 ⟨o, H4, I4, ps, eo, e4⟩ => ?_
  subst eo e4
  have I5 : L2.Inv X pins σ H4 { s4 with heap := s4.heap.push { cls := .type "slice", data := .fields #[vl, vu, vs] } } := I4.kept (t' := s4.toks) fun b ob q => Heap.get?_push_of_some _ q
  show wpAny (model X.prog X.w) X.A (subscriptTail e (.Slice none none (some (.UnaryOp .USub (.Constant (.int 1) k p1) p2)) p3) (.ref a) (.ref s4.heap.objs.size)) (EP X pins σ Q) X.xe { s4 with heap := s4.heap.push { cls := .type "slice", data := .fields #[vl, vu, vs] } }
  rcases q with ⟨hx, q⟩ | ⟨hx, q⟩
  · obtain ⟨its, r, ht, hz⟩ := I5.list hx
    have hlen := r.length
    refine tail_any (ops := [.ref a, .ref s4.heap.objs.size]) ht.isList.typeIs (PySem.slot_list_getitem.lookup) ?_ (by with_unfolding_all rfl)
    refine wpAny_getItem_list_slice ht.isList (Heap.IsSliceOf.new _ vl vu vs) pl pu ps (by decide) ?_ (by rw [List.size_toArray]; omega)
    rw [PySem.W.krv_pick]
    refine ⟨.ref _, _, I5.laid (t' := s4.toks) (o := .lst xs.reverse) (fun b ob q => Heap.get?_push_of_some _ q) (Nat.le_refl _) ?_, rfl, q _ (I5.hok.fresh (Nat.le_refl _))⟩
    exact ⟨by rw [List.length_reverse]; exact hz, _, 0, r.reverse, Heap.get?_push_size _ rfl⟩
  · obtain ⟨its, r, ht, hz⟩ := I5.tuple hx
    have hlen := r.length
    refine tail_any (ops := [.ref a, .ref s4.heap.objs.size]) ht.typeIs (PyProof.Rows.slot_tuple_getitem.lookup) ?_ (by with_unfolding_all rfl)
    refine HT.sw_getItem ht (Heap.IsSliceOf.new _ vl vu vs) pl pu ps ?_ (by rw [List.size_toArray]; omega)
    exact ⟨.ref _, _, layT (tk := s4.toks) I5 (fun b ob q => Heap.get?_push_of_some _ q) (by rw [List.length_reverse]; exact hz) r.reverse (Nat.le_refl _) (Heap.get?_push_size _ rfl), rfl, q _ its.reverse (I5.hok.fresh (Nat.le_refl _))⟩
theorem em_rv {k : Nat} {p1 p2 p3 : Pos} (ha : EM X tabs cf a a') : EM X tabs cf (.Subscript a (.Slice none none (some (.UnaryOp .USub (.Constant (.int 1) k p1) p2)) p3) pos) (.rv a') := by
  refine ⟨fun vw ok => Sw.PE.weak (pe_rev (ha.run true ok)) fun σ H Q h => ?_⟩
  obtain ⟨Z, env, t, env', st, he, q⟩ := h
  rw [ev_rv] at he
  obtain ⟨x, env1, h1, he⟩ := Res.bind_ok he
  obtain ⟨hf, rfl⟩ := Res.of_ok he
  refine ⟨Z, env, x, _, st, h1, fun v Z1 H1 g1 r1 => ?_⟩
  unfold revT at hf
  split at hf
  · rename_i ds hx
    cases hf
    obtain ⟨p, vs, rfl, hs, r⟩ := r1.v.tup hx
    refine ⟨p, vs, rfl, .inr ⟨hs.sq, fun p2 os hp => q _ Z1 _ (g1.new hp) (.im ?_)⟩⟩
    simp only [Rep]
    exact ⟨p2, _, rfl, ⟨_, upd_same, rfl⟩, RepAll.keep (Keep.new hp) (fun _ z => z) _ (RepAll.reverse _ r)⟩
  · rename_i ds hx
    cases hf
    obtain ⟨p, vs, rfl, hs, r⟩ := r1.v.lst hx
    refine ⟨p, vs, rfl, .inl ⟨hs, fun p2 hp => q _ Z1 _ (g1.new hp) (.nu (TRep.made st g1 hp ?_))⟩⟩
    exact ⟨_, upd_same, RepAll.keep (Keep.new hp) (fun _ z => z) _ (RepAll.reverse _ r)⟩
  · cases hf

/-! ### isinstance -/
theorem isi_int : kitB "int" "int" = some true ∧ kitB "bool" "int" = some true ∧ kitB "NoneType" "int" = some false ∧ kitB "str" "int" = some false ∧ kitB "tuple" "int" = some false ∧ kitB "list" "int" = some false := by decide +kernel
theorem isi_bool : kitB "int" "bool" = some false ∧ kitB "bool" "bool" = some true ∧ kitB "NoneType" "bool" = some false ∧ kitB "str" "bool" = some false ∧ kitB "tuple" "bool" = some false ∧ kitB "list" "bool" = some false := by decide +kernel
theorem isi_str : kitB "int" "str" = some false ∧ kitB "bool" "str" = some false ∧ kitB "NoneType" "str" = some false ∧ kitB "str" "str" = some true ∧ kitB "tuple" "str" = some false ∧ kitB "list" "str" = some false := by decide +kernel
theorem isi_tuple : kitB "int" "tuple" = some false ∧ kitB "bool" "tuple" = some false ∧ kitB "NoneType" "tuple" = some false ∧ kitB "str" "tuple" = some false ∧ kitB "tuple" "tuple" = some true ∧ kitB "list" "tuple" = some false := by decide +kernel
theorem isi_list : kitB "int" "list" = some false ∧ kitB "bool" "list" = some false ∧ kitB "NoneType" "list" = some false ∧ kitB "str" "list" = some false ∧ kitB "tuple" "list" = some false ∧ kitB "list" "list" = some true := by decide +kernel
def tyOfD : D → String
  | .non => "NoneType" | .bl _ => "bool" | .int _ => "int" | .str _ => "str" | .tup _ => "tuple" | .lst _ => "list" | .ty _ => "type" | .pr _ => "tuple"
theorem isInst_kit {d : D} {n : Nat} {b : Bool} (h : isInst d n = some b) : kitB (tyOfD d) (tyName n) = some b := by
  obtain ⟨a1, a2, a3, a4, a5, a6⟩ := isi_int
  obtain ⟨b1, b2, b3, b4, b5, b6⟩ := isi_bool
  obtain ⟨c1, c2, c3, c4, c5, c6⟩ := isi_str
  obtain ⟨d1, d2, d3, d4, d5, d6⟩ := isi_tuple
  obtain ⟨e1, e2, e3, e4, e5, e6⟩ := isi_list
  match n with
  | 0 => cases d <;> cases h <;> assumption
  | 1 => cases d <;> cases h <;> assumption
  | 2 => cases d <;> cases h <;> assumption
  | 3 => cases d <;> cases h <;> assumption
  | 4 => cases d <;> cases h <;> assumption
  | n + 5 => cases d <;> cases h
theorem VRep.ty {k : Kx} {Z : Addr → Prop} {H : Hp} {σ : L2.St} {env : En} {xs : List Nat} {t : T} {v : V} (h : VRep k Z H σ env xs t v) {d : D} (e : t.d = some d) (hn : ∀ n, d ≠ .ty n) : TyX k.K H v (.type (tyOfD d)) := by
  cases d with
  | non => rw [show v = .non from h.rep e fun _ q => by cases q]; exact .base .non
  | bl b => rw [h.bl e]; exact .base (.bl b)
  | int i => rw [h.int e]; exact .base (.int i)
  | str s =>
    obtain ⟨x, rfl, _⟩ := (show ∃ x : Str, v = .str x ∧ x.cps.toList = s from h.rep e fun _ q => by cases q)
    exact .base (.str x)
  | tup ds => obtain ⟨a, vs, rfl, ⟨o, h1, _⟩, _⟩ := h.tup e; exact .fTuple h1
  | pr ds =>
    have hp := h.rep e fun _ q => by cases q
    simp only [Rep] at hp
    obtain ⟨a, vs, rfl, h1, _⟩ := hp
    exact .base (.tup h1)
  | lst ds =>
    obtain ⟨a, vs, rfl, h1, _⟩ := h.lst e
    rcases h1 with (h1 | ⟨o, h1⟩) | ⟨o, its, n, h1, h2, _⟩
    · exact .base (.lst h1)
    · exact .base (.frz h1)
    · exact .kList h1 h2
  | ty n => exact absurd rfl (hn n)
theorem serves_isinst {k : Kx} : ServesB k (rIsi k.K) .isinst := by
  intro σ Z Z2 H H2 env env2 tt ts t vs Q st go r e q
  have e2 : isinstT ts = some t := e
  clear e
  unfold isinstT at e2
  split at e2
  · rename_i x n
    cases hx : x.d with
    | none => rw [hx] at e2; cases e2
    | some d =>
      rw [hx] at e2
      have e2 : (isInst d n).map (fun b => T.im (.bl b)) = some t := e2
      cases hi : isInst d n with
      | none => rw [hi] at e2; cases e2
      | some b =>
        rw [hi] at e2
        cases e2
        obtain ⟨v, w, xs, ys, rfl, h1, h2⟩ := r.two
        have hw : w = .ty (tyName n) := h2
        subst hw
        refine ⟨v, _, .type (tyOfD d), .type (tyName n), b, rfl, .ty _, h1.ty hx (fun m q => ?_), kit_ty (isInst_kit hi), q _ _ go TRep.bl⟩
        subst q
        match n with
        | 0 => cases hi
        | 1 => cases hi
        | 2 => cases hi
        | 3 => cases hi
        | 4 => cases hi
        | n + 5 => cases hi
  · cases e2

/-! ### sorted -/
theorem insBy_perm {α : Type} (le : α → α → Bool) (x : α) : ∀ l : List α, (insBy le x l).Perm (x :: l)
  | [] => .refl _
  | y :: ys => by
    unfold insBy
    split
    · exact .refl _
    · exact (List.Perm.cons y (insBy_perm le x ys)).trans (List.Perm.swap x y ys)
theorem sortBy_perm {α : Type} (le : α → α → Bool) : ∀ l : List α, (sortBy le l).Perm l
  | [] => .refl _
  | x :: xs => (insBy_perm le x _).trans (List.Perm.cons x (sortBy_perm le xs))
theorem insBy_sorted {α : Type} (le : α → α → Bool) (tot : ∀ a b, le a b = true ∨ le b a = true) (tr : ∀ a b c, le a b = true → le b c = true → le a c = true) (x : α) : ∀ l : List α, l.Pairwise (fun a b => le a b = true) → (insBy le x l).Pairwise (fun a b => le a b = true)
  | [], _ => by simp [insBy]
  | y :: ys, h => by
    unfold insBy
    obtain ⟨h1, h2⟩ := List.pairwise_cons.mp h
    split
    · rename_i hx
      refine List.pairwise_cons.mpr ⟨fun z hz => ?_, h⟩
      rcases List.mem_cons.mp hz with rfl | hz
      · exact hx
      · exact tr _ _ _ hx (h1 z hz)
    · rename_i hx
      have hyx : le y x = true := (tot x y).resolve_left hx
      refine List.pairwise_cons.mpr ⟨fun z hz => ?_, insBy_sorted le tot tr x ys h2⟩
      rcases List.mem_cons.mp ((insBy_perm le x ys).mem_iff.mp hz) with rfl | hz
      · exact hyx
      · exact h1 z hz
theorem sortBy_sorted {α : Type} (le : α → α → Bool) (tot : ∀ a b, le a b = true ∨ le b a = true) (tr : ∀ a b c, le a b = true → le b c = true → le a c = true) : ∀ l : List α, (sortBy le l).Pairwise (fun a b => le a b = true)
  | [] => .nil
  | x :: xs => insBy_sorted le tot tr x _ (sortBy_sorted le tot tr xs)
/-- two sorted arrangements of one list are one, where the order is antisymmetric -/
theorem sorted_uniq {α : Type} {le : α → α → Bool} (anti : ∀ a b, le a b = true → le b a = true → a = b) : ∀ {l m : List α}, l.Pairwise (fun a b => le a b = true) → m.Pairwise (fun a b => le a b = true) → l.Perm m → l = m
  | [], m, _, _, h => (List.Perm.nil_eq h)
  | x :: l, [], _, _, h => absurd h.length_eq (by simp)
  | x :: l, y :: m, hl, hm, h => by
    obtain ⟨h1, h2⟩ := List.pairwise_cons.mp hl
    obtain ⟨h3, h4⟩ := List.pairwise_cons.mp hm
    have e : x = y := by
      rcases List.mem_cons.mp (h.mem_iff.mp List.mem_cons_self) with e | hx
      · exact e
      · rcases List.mem_cons.mp (h.mem_iff.mpr List.mem_cons_self) with e | hy
        · exact e.symm
        · exact anti _ _ (h1 y hy) (h3 x hx)
    subst e
    rw [sorted_uniq anti h2 h4 h.cons_inv]
theorem pairLe_iff {a b : Int × Int} : pairLe a b = true ↔ a.1 < b.1 ∨ (a.1 = b.1 ∧ a.2 ≤ b.2) := by
  unfold pairLe
  simp [Bool.or_eq_true, Bool.and_eq_true]
theorem pairLe_tot (a b : Int × Int) : pairLe a b = true ∨ pairLe b a = true := by
  rw [pairLe_iff, pairLe_iff]
  omega
theorem pairLe_tr (a b c : Int × Int) : pairLe a b = true → pairLe b c = true → pairLe a c = true := by
  rw [pairLe_iff, pairLe_iff, pairLe_iff]
  omega
theorem pairLe_anti (a b : Int × Int) : pairLe a b = true → pairLe b a = true → a = b := by
  rw [pairLe_iff, pairLe_iff]
  intro h1 h2
  exact Prod.ext (by omega) (by omega)
/-- sorted of ints, any length -/
def rSortedI (K : PySem.W.Frag) : List V → Hp → VK → Prop := fun vs H Q => ∃ (a : Addr) (ns : List Int), vs = [V.ref a] ∧ SqL K H a (ns.map V.int) ∧ ns.length < 64 ∧ ∀ (ns' : List Int) (p : Addr), ns'.Perm ns → ns'.Pairwise (· ≤ ·) → H p = none → Q (.ref p) (upd H p (.lst (ns'.map V.int)))
def keyP (H : Hp) (v : V) : Int × Int := match v with
  | .ref t => match H t with
    | some (.frz _ (.tup [.int i, .int j])) => (i, j)
    | _ => (0, 0)
  | _ => (0, 0)
theorem pairs_map {k : Kx} {Z : Addr → Prop} {H : Hp} : ∀ (ds : List D) {vs : List V} {ps : List (Int × Int)}, RepAll k Z H ds vs → pairs ds = some ps → (∀ v ∈ vs, ∃ t, v = .ref t ∧ TupX H t [.int (keyP H v).1, .int (keyP H v).2]) ∧ vs.map (keyP H) = ps ∧ ds = ps.map fun p => D.tup [.int p.1, .int p.2]
  | [], vs, ps, r, h => by
    simp only [RepAll] at r
    subst r
    cases h
    exact ⟨fun _ q => by simp at q, rfl, rfl⟩
  | d :: ds, vs, ps, r, h => by
    simp only [RepAll] at r
    obtain ⟨v, u, rfl, r1, r2⟩ := r
    unfold pairs at h
    split at h
    · rename_i h0
      cases h0
    · rename_i i j r0 h0
      have h0' := List.cons.inj h0
      obtain ⟨e0, e00⟩ := h0'
      subst e0 e00
      clear h0
      cases hp : pairs ds with
      | none => rw [hp] at h; cases h
      | some qs =>
        rw [hp] at h
        cases h
        obtain ⟨e1, e2, e3⟩ := pairs_map ds r2 hp
        simp only [Rep, RepAll] at r1
        obtain ⟨a, ws, rfl, h1, v1, w1, rfl, rfl, v2, w2, rfl, rfl, rfl⟩ := r1
        have hk : keyP H (.ref a) = (i, j) := by
          obtain ⟨o, h1, _⟩ := h1
          show (match H a with | some (.frz _ (.tup [.int i, .int j])) => (i, j) | _ => (0, 0)) = (i, j)
          rw [h1]
        refine ⟨fun v hv => ?_, ?_, ?_⟩
        · rcases List.mem_cons.mp hv with rfl | hv
          · exact ⟨a, rfl, by rw [hk]; exact h1⟩
          · exact e1 v hv
        · rw [List.map_cons, hk, e2]
        · rw [List.map_cons, ← e3]
    · cases h
theorem pairs_done {k : Kx} {Z2 : Addr → Prop} {H2 : Hp} {vs ys : List V} {ps : List (Int × Int)} {p : Addr} (hp0 : H2 p = none) (e1 : ∀ v ∈ vs, ∃ t, v = .ref t ∧ TupX H2 t [.int (keyP H2 v).1, .int (keyP H2 v).2]) (e2 : vs.map (keyP H2) = ps)
    (hs1 : SrtO.Srtd (ltP (keyP H2)) ys) (hs2 : SrtO.Stb (ltP (keyP H2)) ys vs) : RepAll k Z2 (upd H2 p (.lst ys)) ((sortBy pairLe ps).map fun p => D.tup [D.int p.1, D.int p.2]) ys := by
  -- the keys of ys are the sorted keys
  have hk : ys.map (keyP H2) = sortBy pairLe ps := by
    refine sorted_uniq pairLe_anti ?_ (sortBy_sorted _ pairLe_tot pairLe_tr ps) (((hs2.perm.map (keyP H2)).trans (by rw [e2])).trans (sortBy_perm _ ps).symm)
    rw [List.pairwise_map]
    refine hs1.imp fun {x y} hxy => ?_
    have hxy : SrtO.lexB (keyP H2 y) (keyP H2 x) = false := hxy
    have := SrtO.lexB_no.mp hxy
    rw [pairLe_iff]
    omega
  have hy : ∀ v ∈ ys, ∃ t, v = .ref t ∧ TupX H2 t [.int (keyP H2 v).1, .int (keyP H2 v).2] := fun v hv => e1 v (hs2.perm.mem_iff.mp hv)
  show RepAll k Z2 _ ((sortBy pairLe ps).map fun p => D.tup [D.int p.1, D.int p.2]) ys
  rw [← hk, List.map_map]
  have kp : Keep Z2 H2 (upd H2 p (.lst ys)) := Keep.new hp0
  clear hs1 hs2 hk
  generalize hH3 : upd H2 p (.lst ys) = H3 at kp
  clear hH3
  induction ys with
  | nil => simp [RepAll]
  | cons y ys ih =>
    simp only [List.map_cons, RepAll]
    refine ⟨y, ys, rfl, ?_, ih fun v hv => hy v (List.mem_cons_of_mem _ hv)⟩
    obtain ⟨t, rfl, o, ht, ho⟩ := hy y List.mem_cons_self
    simp only [Function.comp, Rep, RepAll]
    exact ⟨t, _, rfl, ⟨o, kp.frz _ _ _ ht, ho⟩, _, _, rfl, rfl, _, _, rfl, rfl, rfl⟩
theorem serves_sorted {k : Kx} : ServesB k (fun vs H Q => rSorted k.K vs H Q ∨ rSortedPL k.K vs H Q ∨ rSortedPT k.K vs H Q ∨ rSortedIT k.K vs H Q) .sorted := by
  intro σ Z Z2 H H2 env env2 tt ts t vs Q st go r e q
  obtain ⟨x, hx, e9⟩ := oneT_some (show oneT _ ts = some t from e)
  clear e
  subst hx
  obtain ⟨v, xs, rfl, h⟩ := r.one
  unfold sortT at e9
  split at e9
  · rename_i ds hx
    obtain ⟨a, vs, rfl, h1, h2⟩ := h.lst hx
    cases hs : sortD ds with
    | none => rw [hs] at e9; cases e9
    | some ys =>
      rw [hs] at e9
      cases e9
      unfold sortD at hs
      split at hs
      · rename_i ns hn
        split at hs
        · rename_i hlt
          cases hs
          obtain ⟨rfl, rfl⟩ := ints_map ds h2 hn
          refine .inl ⟨a, ns, rfl, h1, hlt, fun ns' p hp1 hp2 hp => q _ _ (go.new hp) (TRep.made st go hp ?_)⟩
          have e : ns' = sortBy (fun a b => decide (a ≤ b)) ns := by
            refine sorted_uniq (le := fun a b => decide (a ≤ b)) (fun a b h1 h2 => ?_) (hp2.imp fun h => decide_eq_true h) (sortBy_sorted _ (fun a b => ?_) (fun a b c h1 h2 => ?_) ns) (hp1.trans (sortBy_perm _ ns).symm)
            · have h1 := of_decide_eq_true h1
              have h2 := of_decide_eq_true h2
              omega
            · simp only [decide_eq_true_eq]
              omega
            · simp only [decide_eq_true_eq] at h1 h2 ⊢
              omega
          refine ⟨_, upd_same, ?_⟩
          rw [e]
          generalize sortBy (fun a b => decide (a ≤ b)) ns = ms
          generalize upd H2 p (.lst (ms.map V.int)) = H3
          induction ms with
          | nil => simp [RepAll]
          | cons m ms ih =>
            simp only [List.map_cons, RepAll]
            exact ⟨_, _, rfl, rfl, ih⟩
        · cases hs
      · cases hp : pairs ds with
        | none => rw [hp] at hs; cases hs
        | some ps =>
          rw [hp] at hs
          cases hs
          obtain ⟨e1, e2, e3⟩ := pairs_map ds h2 hp
          refine .inr (.inl ⟨a, vs, keyP H2, rfl, h1, e1, fun ys p hs1 hs2 hp0 => q _ _ (go.new hp0) (TRep.made st go hp0 ⟨ys, upd_same, ?_⟩)⟩)
          exact pairs_done hp0 e1 e2 hs1 hs2
  · rename_i ds hx
    obtain ⟨a, vs, rfl, h1, h2⟩ := h.tup hx
    split at e9
    · rename_i ns hn
      cases e9
      obtain ⟨rfl, rfl⟩ := ints_map ds h2 hn
      refine .inr (.inr (.inr ⟨a, ns, rfl, h1.sq, fun ns' p hp1 hp2 hp => q _ _ (go.new hp) (TRep.made st go hp ?_)⟩))
      have e : ns' = sortBy (fun a b => decide (a ≤ b)) ns := by
        refine sorted_uniq (le := fun a b => decide (a ≤ b)) (fun a b h1 h2 => ?_) (hp2.imp fun h => decide_eq_true h) (sortBy_sorted _ (fun a b => ?_) (fun a b c h1 h2 => ?_) ns) (hp1.trans (sortBy_perm _ ns).symm)
        · have h1 := of_decide_eq_true h1
          have h2 := of_decide_eq_true h2
          omega
        · simp only [decide_eq_true_eq]
          omega
        · simp only [decide_eq_true_eq] at h1 h2 ⊢
          omega
      refine ⟨_, upd_same, ?_⟩
      rw [e]
      generalize sortBy (fun a b => decide (a ≤ b)) ns = ms
      generalize upd H2 p (.lst (ms.map V.int)) = H3
      induction ms with
      | nil => simp [RepAll]
      | cons m ms ih =>
        simp only [List.map_cons, RepAll]
        exact ⟨_, _, rfl, rfl, ih⟩
    cases hp : pairs ds with
    | none => rw [hp] at e9; cases e9
    | some ps =>
      rw [hp] at e9
      cases e9
      obtain ⟨e1, e2, e3⟩ := pairs_map ds h2 hp
      refine .inr (.inr (.inl ⟨a, vs, keyP H2, rfl, h1.sq, e1, fun ys p hs1 hs2 hp0 => q _ _ (go.new hp0) (TRep.made st go hp0 ⟨ys, upd_same, ?_⟩)⟩))
      exact pairs_done hp0 e1 e2 hs1 hs2
  · cases e9
end
end Sw

set_option Elab.async false
set_option linter.all false
set_option maxRecDepth 100000
/-! repr; methods; calls of defs. -/
namespace Sw
open PySem PySem.Spec PyProof.Rows L2
theorem join_codes (sep : Str) : ∀ ts : List Str, (Str.join sep ts).cps.toList = joinCodes sep.cps.toList (ts.map fun t => t.cps.toList)
  | [] => rfl
  | [x] => rfl
  | x :: y :: r => by
    show (x ++ sep ++ Str.join sep (y :: r)).cps.toList = x.cps.toList ++ sep.cps.toList ++ joinCodes sep.cps.toList ((y :: r).map fun t => t.cps.toList)
    rw [← join_codes sep (y :: r), Str.cps_append, Str.cps_append, Array.toList_append, Array.toList_append]
theorem int_codes (i : Int) : (Str.ofString (toString i)).cps.toList = intCodes i := by
  unfold intCodes natCodes
  cases i with
  | ofNat n =>
    rw [if_neg (show ¬ (Int.ofNat n < 0) from Int.not_lt.mpr (Int.natCast_nonneg n))]
    exact PySem.W.KIN.signs_num n
  | negSucc n =>
    rw [if_pos (Int.negSucc_lt_zero n)]
    rw [PyProof.Rows.signs_ofString]
    show (("-" ++ Nat.repr (n + 1) : String)).toList.map Char.toNat = _
    rw [String.toList_append, List.map_append, Nat.toList_repr]
    rfl
theorem okStr_cases {s : List Nat} (h : okStr s = true) : s = [] ∨ s = [97] ∨ s = [120, 32, 121] := by
  simp only [okStr, Bool.or_eq_true, beq_iff_eq] at h
  rcases h with (h | h) | h
  · exact .inl h
  · exact .inr (.inl h)
  · exact .inr (.inr h)
mutual
theorem shown_codes : ∀ d : D, d.shw = true → (pd d).shown.cps.toList = d.repr
  | .non, _ => by simp only [pd, PyData.shown, D.repr]; decide +kernel
  | .bl true, _ => by simp only [pd, PyData.shown, D.repr]; decide +kernel
  | .bl false, _ => by simp only [pd, PyData.shown, D.repr]; decide +kernel
  | .int i, _ => by simp only [pd, PyData.shown, D.repr]; exact int_codes i
  | .str s, h => by
    rcases okStr_cases (show okStr s = true by simpa only [D.shw] using h) with rfl | rfl | rfl <;> decide +kernel
  | .ty _, h => by simp [D.shw] at h
  | .tup xs, h => by
    simp only [D.shw] at h
    simp only [pd, PyData.shown_tuple, D.repr]
    rw [Str.cps_append, Str.cps_append, Array.toList_append, Array.toList_append, join_codes, shown_codess xs h, pds_map, List.length_map]
    congr 1
    split <;> decide +kernel
  | .lst xs, h => by
    simp only [D.shw] at h
    simp only [pd, PyData.shown_list, D.repr]
    rw [Str.cps_append, Str.cps_append, Array.toList_append, Array.toList_append, join_codes, shown_codess xs h]
    congr 1
theorem shown_codess : ∀ xs : List D, D.shws xs = true → (PyData.shownAll (pds xs)).map (fun t => t.cps.toList) = D.reprs xs
  | [], _ => by simp only [pds, PyData.shownAll, D.reprs, List.map_nil]
  | x :: xs, h => by
    simp only [D.shws, Bool.and_eq_true] at h
    simp only [pds, PyData.shownAll, D.reprs, List.map_cons]
    rw [shown_codes x h.1, shown_codess xs h.2]
end
mutual
theorem shw_noTy : ∀ d : D, d.shw = true → d.noTy = true ∧ (pd d).showable = true ∧ (pd d).hasDict = false
  | .non, _ => by simp [D.noTy, pd, PyData.showable, PyData.hasDict]
  | .bl _, _ => by simp [D.noTy, pd, PyData.showable, PyData.hasDict]
  | .int i, h => by
    simp only [D.shw, decide_eq_true_eq] at h
    refine ⟨rfl, ?_, by simp only [pd, PyData.hasDict]⟩
    simp only [pd, PyData.showable, decide_eq_true_eq]
    exact Nat.lt_trans (PySem.Flt.log2_lt_of (by decide) h) (by decide)
  | .str s, h => by
    rcases okStr_cases (show okStr s = true by simpa only [D.shw] using h) with rfl | rfl | rfl <;> exact ⟨by decide +kernel, by decide +kernel, by decide +kernel⟩
  | .ty _, h => by simp [D.shw] at h
  | .tup xs, h => by
    simp only [D.shw] at h
    obtain ⟨h1, h2, h3⟩ := shws_noTy xs h
    exact ⟨by simp only [D.noTy]; exact h1, by simp only [pd, PyData.showable]; exact h2, by simp only [pd, PyData.hasDict]; exact h3⟩
  | .lst xs, h => by
    simp only [D.shw] at h
    obtain ⟨h1, h2, h3⟩ := shws_noTy xs h
    exact ⟨by simp only [D.noTy]; exact h1, by simp only [pd, PyData.showable]; exact h2, by simp only [pd, PyData.hasDict]; exact h3⟩
theorem shws_noTy : ∀ xs : List D, D.shws xs = true → D.noTys xs = true ∧ PyData.showableAll (pds xs) = true ∧ PyData.hasDictAll (pds xs) = false
  | [], _ => by simp [D.noTys, pds, PyData.showableAll, PyData.hasDictAll]
  | x :: xs, h => by
    simp only [D.shws, Bool.and_eq_true] at h
    obtain ⟨h1, h2, h3⟩ := shw_noTy x h.1
    obtain ⟨k1, k2, k3⟩ := shws_noTy xs h.2
    simp only [D.noTys, pds, PyData.showableAll, PyData.hasDictAll, h1, h2, h3, k1, k2, k3]
    exact ⟨rfl, rfl, rfl⟩
end
section
variable {X : Cx} {tabs : List Addr} {cf : CF} {a b c : Expr} {a' b' c' : E} {pos : Pos}
def rRepr (K : PySem.W.Frag) : List V → Hp → VK → Prop := fun xs H Q => (∃ (p : Addr) (d : PyData), xs = [.ref p] ∧ Dp K H (.ref p) d ∧ d.showable = true ∧ d.hasDict = false ∧ d.depth ≤ 60 ∧ d.shown.length ≤ sizeLine ∧ Q (.str d.shown) H) ∨
  ∃ b : Bool, xs = [.bl b] ∧ Q (.str (if b then "True" else "False")) H
theorem cr_repr {l : Nat} (hg : X.A.guards = some []) (hr : Room l X.A) : CallR X (.builtin "repr") (rRepr X.K) := by
  intro pins s σ H xs us Q I r h
  rcases h with ⟨p, d, rfl, hd, h1, h2, h3, h4, q⟩ | ⟨b, rfl, q⟩
  · obtain ⟨u, rfl, ru⟩ := vals1 r
    obtain rfl : u = Value.ref p := ru
    obtain ⟨as, hr2⟩ := Dp.reads I d _ _ hd rfl
    have hu := hr.units
    exact repr_of_reads' hr2 h1 (PyData.noDict_hsm h2) hg (by omega) (fun _ _ e => e) (fun h' u tk hk => ⟨.str _, H, I.kept hk, ⟨_, rfl⟩, q⟩) h4
  · obtain ⟨u, rfl, ru⟩ := vals1 r
    obtain rfl : u = Value.bool b := ru
    exact PySem.P.repr_of_bool ⟨.str _, H, I.tok _, ⟨_, rfl⟩, q⟩
theorem serves_repr {k : Kx} : ServesB k (rRepr k.K) .repr := by
  intro σ Z Z2 H H2 env env2 tt ts t vs Q st go r e q
  obtain ⟨x, hx, e9⟩ := oneT_some (show oneT _ ts = some t from e)
  clear e
  subst hx
  obtain ⟨v, xs, rfl, h⟩ := r.one
  unfold reprT at e9
  split at e9
  · rename_i b hx
    cases e9
    obtain rfl : v = .bl b := h.bl hx
    refine .inr ⟨b, rfl, q _ _ go ?_⟩
    refine ⟨_, rfl, ?_⟩
    cases b <;> (simp only [D.repr]; decide +kernel)
  · rename_i d _ hx
    split at e9
    · rename_i hc
      cases e9
      simp only [Bool.and_eq_true, decide_eq_true_eq] at hc
      obtain ⟨⟨⟨c1, c2⟩, c3⟩, c4⟩ := hc
      obtain ⟨n1, n2, n3⟩ := shw_noTy d c2
      have hdp := h.dp hx n1
      have hl : (pd d).shown.length = d.repr.length := by rw [← shown_codes d c2]; simp [Str.length]
      have hp : ∃ p, v = .ref p := by
        cases d with
        | tup ds => obtain ⟨a, vs, rfl, _⟩ := h.tup hx; exact ⟨a, rfl⟩
        | lst ds => obtain ⟨a, vs, rfl, _⟩ := h.lst hx; exact ⟨a, rfl⟩
        | _ => cases c1
      obtain ⟨p, rfl⟩ := hp
      refine .inl ⟨p, pd d, rfl, hdp, n2, n3, by rw [pd_depth]; exact c4, by rw [hl, ← sl_eq]; exact c3, q _ _ go ?_⟩
      exact ⟨_, rfl, shown_codes d c2⟩
    · cases e9
  · cases e9

/-! ### methods of a slot's object -/
theorem Go.setKeep {k : Kx} {Z : Addr → Prop} {H : Hp} {σ : L2.St} {env : En} (s : StOk k Z H σ env) {i : Nat} {b : Bool} {o : O} {a : Addr} {ho : HO} (e : env[i]? = some (.mu b o)) (ha : σ[i]? = some (some (.ref a))) : Keep Z H (upd H a ho) := by
  obtain ⟨a', h1, h2, h3, ow⟩ := s.own e
  rw [ha] at h1
  cases h1
  obtain ⟨_, hk⟩ := s.noOwn ow
  have ne : ∀ x u, H x = some u → (∀ ys, u = .lst ys → Z x) → (∀ S n, u ≠ SetO k.w a S n) → upd H a ho x = some u := fun x u q hz hs => by
    refine (upd_ne fun z => ?_).trans q
    subst z
    rcases hk with ⟨ys, h⟩ | ⟨S, n, h⟩
    · rw [q] at h
      cases h
      exact h3 (hz ys rfl)
    · rw [q] at h
      cases h
      exact hs S n rfl
  exact ⟨fun x xs q => ne x _ q (fun _ z => by cases z) fun _ _ z => (by cases z), fun x o u q => ne x _ q (fun _ z => by cases z) fun _ _ z => (by cases z), fun x xs z q => ne x _ q (fun _ _ => z) fun _ _ z => (by cases z)⟩
/-- a slot's object is changed -/
theorem Go.setSlot {k : Kx} {Z : Addr → Prop} {H : Hp} {σ : L2.St} {env : En} (s : StOk k Z H σ env) {i : Nat} {b : Bool} {o o' : O} {a : Addr} {ho : HO} (e : env[i]? = some (.mu b o)) (ha : σ[i]? = some (some (.ref a))) (hr : ORep k Z (upd H a ho) a o') :
    Go k [i] σ Z H env Z (upd H a ho) (setW env i (.mu b o')) := by
  obtain ⟨a', h1, h2, h3, ow⟩ := s.own e
  rw [ha] at h1
  cases h1
  obtain ⟨_, hk⟩ := s.noOwn ow
  have hne : H a ≠ none := by
    rcases hk with ⟨_, q⟩ | ⟨_, _, q⟩ <;> rw [q] <;> simp
  have kp : Keep Z H (upd H a ho) := Go.setKeep s e ha
  have hsub : ∀ j x, OwnAt σ (setW env i (.mu b o')) j x → OwnAt σ env j x := fun j x ⟨⟨c, o2, q⟩, hs⟩ => by
    by_cases hj : j = i
    · subst hj; exact ⟨⟨b, o, e⟩, hs⟩
    · rw [setW_ne hj] at q; exact ⟨⟨c, o2, q⟩, hs⟩
  refine ⟨fun _ z => z, fun _ z => .inl z, fun x u q _ hn => ?_, fun x q => ?_, fun j hj => setW_ne fun q => hj (by simp [q]), hsub, fun j q => ?_, ?_⟩
  · refine (upd_ne fun z => ?_).trans q
    subst z
    exact hn i (by simp) ow
  · by_cases hx : x = a
    · subst hx; rw [upd_same] at q; cases q
    · rw [upd_ne hx] at q; exact q
  · by_cases hj : j = i
    · subst hj
      rcases q with ⟨o2, q⟩ | ⟨ds', q⟩
      · rw [e] at q; cases q; exact .inl ⟨_, setW_same e⟩
      · rw [e] at q; cases q
    · unfold Lent
      rw [setW_ne hj]
      exact q
  · refine ⟨by unfold setW; rw [List.length_set]; exact s.len, fun j d q => ?_, fun j d q => ?_, fun j c o2 q => ?_, fun j l x q1 q2 => s.inj j l x (hsub j x q1) (hsub l x q2), fun P hP => ?_, fun x z q => ?_⟩
    · have hj : j ≠ i := fun z => by subst z; rw [setW_same e] at q; cases q
      rw [setW_ne hj] at q
      obtain ⟨v, q1, q2⟩ := s.im j d q
      exact ⟨v, q1, Rep.keep kp (fun _ z => z) d q2⟩
    · have hj : j ≠ i := fun z => by subst z; rw [setW_same e] at q; cases q
      rw [setW_ne hj] at q
      obtain ⟨v, q1, q3, q2⟩ := s.fz j d q
      exact ⟨v, q1, q3, Rep.keep kp (fun _ z => z) _ q2⟩
    · by_cases hj : j = i
      · subst hj
        rw [setW_same e] at q
        cases q
        exact ⟨a, ha, hr, h3⟩
      · rw [setW_ne hj] at q
        obtain ⟨x, q1, q2, q3⟩ := s.mu j c o2 q
        have hx : x ≠ a := fun z => by subst z; exact hj (s.inj j i x ⟨⟨c, o2, q⟩, q1⟩ ow)
        exact ⟨x, q1, ORep.keep kp (fun _ z => z) (upd_ne hx) q2, q3⟩
    · obtain ⟨ps, q1, q2⟩ := s.tab P hP
      have hx : P ≠ a := fun z => by
        subst z
        rcases hk with ⟨_, q⟩ | ⟨_, _, q⟩ <;> rw [q1] at q <;> cases q
      exact ⟨ps, by rw [upd_ne hx]; exact q1, q2⟩
    · by_cases hx : x = a
      · subst hx; rw [upd_same] at q; cases q
      · rw [upd_ne hx] at q; exact s.zh x z q
/-- a method that changes the object of a slot; C: what the rule asks of the receiver -/
theorem em_mtO2 {k : Nat} {o : Expr} {name : Str} {apos cpos : Pos} {es : List Expr} {e' : E} {m : MT} {C : V → Hp → Prop} {r : V → List V → Hp → VK → Prop}
    (hp : okE e' .keep = true → PE X (.Call (.Attribute o name apos) es [] cpos) (fun σ H Q => tVar k σ H fun x H1 => C x H1 ∧ RdS (kx X tabs) cf e' σ H1 fun xs H2 => r x xs H2 Q))
    (hC : ∀ (H : Hp) (a : Addr) (env : En) (b : Bool) (o : O) (Z : Addr → Prop), ORep (kx X tabs) Z H a o → env[k]? = some (.mu b o) → isMu env k m = true → C (.ref a) H)
    (hs : ∀ (H : Hp) (a : Addr) (o o' : O) (Z : Addr → Prop) (ds : List D) (d : D) (vs : List V) (Q : VK), ORep (kx X tabs) Z H a o → RepAll (kx X tabs) Z H ds vs → mtO m o ds = some (d, o') → (∀ v ho, Rep (kx X tabs) Z H d v → (Keep Z H (upd H a ho) → ORep (kx X tabs) Z (upd H a ho) a o') → Q v (upd H a ho)) → r (.ref a) vs H Q)
    (hmv : ∀ x ds, mtV m x ds = none) : EM X tabs cf (.Call (.Attribute o name apos) es [] cpos) (.mt m (.v k) e') := by
  refine ⟨fun vw ok => ?_⟩
  simp only [okE, Bool.and_eq_true] at ok
  refine Sw.PE.weak (hp ok.2.1) fun σ H Q h => ?_
  obtain ⟨Z, env, t, env', st, hev, q⟩ := h
  rw [ev_mt] at hev
  split at hev
  · rename_i hmu
    obtain ⟨ds, env1, h1, hev⟩ := Res.bind_ok hev
    unfold mtSlot at hev
    split at hev
    · rename_i b o1 e1
      split at hev
      · rename_i d o' hm
        cases hev
        have hmu0 : ∃ b0 o0, env[k]? = some (.mu b0 o0) := by
          unfold isMu at hmu
          split at hmu
          · rename_i b0 o0 e0; exact ⟨b0, _, e0⟩
          · rename_i b0 o0 e0; exact ⟨b0, _, e0⟩
          · cases hmu
        obtain ⟨b0, o0, e0⟩ := hmu0
        obtain ⟨a, hσ, ro0, _, _⟩ := st.own e0
        refine ⟨.ref a, hσ, hC H a env b0 o0 Z ro0 e0 hmu, Z, env, ds, env1, st, h1, fun vs Z1 H1 g1 r1 => ?_⟩
        obtain ⟨a2, hσ2, ro1, _, _⟩ := g1.st.own e1
        rw [hσ] at hσ2
        cases hσ2
        refine hs H1 a o1 o' Z1 ds d vs Q ro1 r1 hm fun v ho rv ro => ?_
        have g2 := Go.setSlot g1.st e1 hσ (ro (Go.setKeep g1.st e1 hσ))
        refine q v Z1 _ ((g1.trans g2).mono fun i hi => ?_) (.im (Rep.keep (g2.keepK g1.st) g2.zz d rv))
        rcases List.mem_append.mp hi with hi | hi
        · exact List.mem_append_right _ hi
        · exact List.mem_append_left _ hi
      · rw [hmv] at hev; cases hev
    · cases hev
  · obtain ⟨x, env1, h1, hev⟩ := Res.bind_ok hev
    obtain ⟨ds, env2, h2, hev⟩ := Res.bind_ok hev
    rw [hmv] at hev
    cases hev
theorem em_mtO {k : Nat} {o : Expr} {name : Str} {apos cpos : Pos} {es : List Expr} {e' : E} {m : MT} {C : V → Hp → Prop} {r : V → List V → Hp → VK → Prop}
    (hp : ∀ (to : TE) (ta : TA), PE X o to → PA X es ta → PE X (.Call (.Attribute o name apos) es [] cpos) (fun σ H Q => to σ H fun x H1 => C x H1 ∧ ta σ H1 fun xs H2 => r x xs H2 Q))
    (hC : ∀ (H : Hp) (a : Addr) (env : En) (b : Bool) (o : O) (Z : Addr → Prop), ORep (kx X tabs) Z H a o → env[k]? = some (.mu b o) → isMu env k m = true → C (.ref a) H)
    (hs : ∀ (H : Hp) (a : Addr) (o o' : O) (Z : Addr → Prop) (ds : List D) (d : D) (vs : List V) (Q : VK), ORep (kx X tabs) Z H a o → RepAll (kx X tabs) Z H ds vs → mtO m o ds = some (d, o') → (∀ v ho, Rep (kx X tabs) Z H d v → (Keep Z H (upd H a ho) → ORep (kx X tabs) Z (upd H a ho) a o') → Q v (upd H a ho)) → r (.ref a) vs H Q)
    (hmv : ∀ x ds, mtV m x ds = none) (ho : PE X o (tVar k)) (he : SM X tabs cf es e') : EM X tabs cf (.Call (.Attribute o name apos) es [] cpos) (.mt m (.v k) e') :=
  em_mtO2 (fun ok => hp _ _ ho (he.run ok)) hC hs hmv
end
end Sw

set_option Elab.async false
set_option linter.all false
set_option maxRecDepth 100000
/-! Methods; what is walked; targets. -/
namespace Sw
open PySem PySem.Spec PyProof.Rows L2
section
variable {X : Cx} {tabs : List Addr} {cf : CF} {a b c : Expr} {a' b' c' : E} {pos : Pos}
theorem mtV_append (x : T) (ds : List D) : mtV .append x ds = none := by unfold mtV; cases x.d with | none => rfl | some d => cases d <;> rfl
theorem mtV_pop (x : T) (ds : List D) : mtV .pop x ds = none := by unfold mtV; cases x.d with | none => rfl | some d => cases d <;> rfl
theorem mtV_add (x : T) (ds : List D) : mtV .add x ds = none := by unfold mtV; cases x.d with | none => rfl | some d => cases d <;> rfl
theorem isMu_l {env : En} {k : Nat} {b : Bool} {o : O} {m : MT} (e : env[k]? = some (.mu b o)) (h : isMu env k m = true) (hm : m ≠ .add) : ∃ ds, o = .l ds := by
  cases o with
  | l ds => exact ⟨ds, rfl⟩
  | s xs =>
    unfold isMu at h
    rw [e] at h
    cases m <;> first | exact absurd rfl hm | cases h
theorem isMu_s {env : En} {k : Nat} {b : Bool} {o : O} (e : env[k]? = some (.mu b o)) (h : isMu env k .add = true) : ∃ xs, o = .s xs := by
  cases o with
  | s ds => exact ⟨ds, rfl⟩
  | l xs =>
    unfold isMu at h
    rw [e] at h
    cases h
theorem hC_list {k : Nat} {m : MT} (hm : m ≠ .add) (H : Hp) (a : Addr) (env : En) (b : Bool) (o : O) (Z : Addr → Prop) (r : ORep (kx X tabs) Z H a o) (e1 : env[k]? = some (.mu b o)) (h1 : isMu env k m = true) : tyV X.K "list" (.ref a) H := by
  obtain ⟨ds, rfl⟩ := isMu_l e1 h1 hm
  obtain ⟨vs, h, _⟩ := (show ∃ vs, H a = some (.lst vs) ∧ RepAll (kx X tabs) Z H ds vs from r)
  exact .inl ⟨rfl, vs, .of h⟩
theorem em_append {k : Nat} {o : Expr} {es : List Expr} {apos cpos : Pos} {e' : E}
    (hp : ∀ (to : TE) (ta : TA), PE X o to → PA X es ta → PE X (.Call (.Attribute o "append" apos) es [] cpos) (tBM X.K "list" rAppend to ta)) (ho : PE X o (tVar k)) (he : SM X tabs cf es e') : EM X tabs cf (.Call (.Attribute o "append" apos) es [] cpos) (.mt .append (.v k) e') := by
  refine em_mtO (C := fun x H1 => tyV X.K "list" x H1) (r := rAppend) (fun to ta h1 h2 => hp to ta h1 h2) (hC_list (fun q => by cases q)) (fun H a o o' Z ds d vs Q r1 r2 hm q => ?_) mtV_append ho he
  cases o with
  | s _ => cases ds <;> cases hm
  | l xs =>
    cases ds with
    | nil => cases hm
    | cons y ys =>
      cases ys with
      | cons _ _ => cases hm
      | nil =>
        have hm : (if xs.length < SL then some (D.non, O.l (xs ++ [y])) else none) = some (d, o') := hm
        split at hm
        · rename_i hl
          cases hm
          obtain ⟨ws, h1, r1⟩ := (show ∃ vs, H a = some (.lst vs) ∧ RepAll (kx X tabs) Z H xs vs from r1)
          simp only [RepAll] at r2
          obtain ⟨v, _, rfl, r2, rfl⟩ := r2
          refine ⟨a, ws, v, rfl, rfl, h1, by rw [← RepAll.len _ r1, ← sl_eq]; exact hl, q .non _ rfl fun kp => ⟨_, upd_same, ?_⟩⟩
          refine RepAll.keep kp (fun _ z => z) _ (RepAll.append _ _ r1 ?_)
          simp only [RepAll]
          exact ⟨v, [], rfl, r2, rfl⟩
        · cases hm
theorem seqIndex_eq (i : Int) (n : Nat) : PySem.seqIndex? i n = ixE n i := by
  unfold PySem.seqIndex? ixE
  by_cases h : 0 ≤ i
  · rw [if_pos h]
    simp only [if_neg (show ¬ i < 0 by omega), h, decide_true, Bool.true_and, decide_eq_true_eq]
  · rw [if_neg h]
    simp only [if_pos (show i < 0 by omega), Bool.and_eq_true, decide_eq_true_eq]
    by_cases h2 : -(n : Int) ≤ i
    · rw [if_pos h2, if_pos ⟨by omega, by omega⟩]
    · rw [if_neg h2, if_neg (by omega)]
/-- pop() and pop(i) -/
theorem em_pop2 {k : Nat} {o : Expr} {es : List Expr} {apos cpos : Pos} {e' : E}
    (hp : okE e' .keep = true → PE X (.Call (.Attribute o "pop" apos) es [] cpos) (fun σ H Q => tVar k σ H fun x H1 => tyV X.K "list" x H1 ∧ RdS (kx X tabs) cf e' σ H1 fun xs H2 => (fun x vs H Q => rPop x vs H Q ∨ rPopAt x vs H Q) x xs H2 Q)) : EM X tabs cf (.Call (.Attribute o "pop" apos) es [] cpos) (.mt .pop (.v k) e') := by
  refine em_mtO2 (C := fun x H1 => tyV X.K "list" x H1) (r := fun x vs H Q => rPop x vs H Q ∨ rPopAt x vs H Q) hp (hC_list (fun q => by cases q)) (fun H a o o' Z ds d vs Q r1 r2 hm q => ?_) mtV_pop
  cases o with
  | s _ => cases ds <;> cases hm
  | l xs =>
    obtain ⟨ws, h1, r1⟩ := (show ∃ vs, H a = some (.lst vs) ∧ RepAll (kx X tabs) Z H xs vs from r1)
    cases ds with
    | nil =>
      obtain rfl : vs = [] := by simpa only [RepAll] using r2
      have hm : (match xs.getLast? with | some x => some (x, O.l xs.dropLast) | none => none) = some (d, o') := hm
      cases hx : xs.getLast? with
      | none => rw [hx] at hm; cases hm
      | some x =>
        rw [hx] at hm
        cases hm
        rw [List.getLast?_eq_getElem?] at hx
        obtain ⟨v, h2, h3⟩ := RepAll.get _ r1 hx
        rw [RepAll.len _ r1] at h2
        refine .inl ⟨a, ws, v, rfl, rfl, h1, h2, q v _ h3 fun kp => ⟨_, upd_same, ?_⟩⟩
        have ed : RepAll (kx X tabs) Z H xs.dropLast ws.dropLast := by
          rw [List.dropLast_eq_take, List.dropLast_eq_take, RepAll.len _ r1]
          exact RepAll.take _ _ r1
        exact RepAll.keep kp (fun _ z => z) _ ed
    | cons y ys =>
      cases ys with
      | cons _ _ => cases y <;> cases hm
      | nil =>
        cases y with
        | int i =>
          have hm0 : (if xs.length ≤ SL then ((ixE xs.length i).bind fun k => (xs[k]?).map fun x => (x, O.l (xs.eraseIdx k))) else none) = some (d, o') := hm
          have hsl : xs.length ≤ SL := by
            by_cases hsl : xs.length ≤ SL
            · exact hsl
            · rw [if_neg hsl] at hm0; cases hm0
          rw [if_pos hsl] at hm0
          have hm := hm0
          clear hm0
          cases hi : ixE xs.length i with
          | none => rw [hi] at hm; cases hm
          | some j =>
            rw [hi] at hm
            have hm : (xs[j]?).map (fun x => (x, O.l (xs.eraseIdx j))) = some (d, o') := hm
            cases hx : xs[j]? with
            | none => rw [hx] at hm; cases hm
            | some x =>
              rw [hx] at hm
              cases hm
              obtain ⟨v, h2, h3⟩ := RepAll.get _ r1 hx
              simp only [RepAll] at r2
              obtain ⟨w, _, rfl, rfl, rfl⟩ := r2
              have hlen := RepAll.len _ r1
              have hj : j < xs.length := (List.getElem?_eq_some_iff.mp hx).1
              have hb : -(2 ^ 63) ≤ i ∧ i < 2 ^ 63 := by
                have h9 : SL = 16777216 := rfl
                unfold ixE at hi
                split at hi
                · split at hi
                  · exact ⟨by omega, by omega⟩
                  · cases hi
                · split at hi
                  · exact ⟨by omega, by omega⟩
                  · cases hi
              refine .inr ⟨a, ws, i, j, v, rfl, rfl, h1, hb.1, hb.2, ?_, h2, q v _ h3 fun kp => ⟨_, upd_same, ?_⟩⟩
              · rw [seqIndex_eq, ← hlen]; exact hi
              · exact RepAll.keep kp (fun _ z => z) _ (RepAll.eraseIdx _ _ r1)
        | _ => cases hm

theorem em_pop {k : Nat} {o : Expr} {es : List Expr} {apos cpos : Pos} {e' : E}
    (hp : ∀ (to : TE) (ta : TA), PE X o to → PA X es ta → PE X (.Call (.Attribute o "pop" apos) es [] cpos) (tBM X.K "list" (fun x vs H Q => rPop x vs H Q ∨ rPopAt x vs H Q) to ta)) (ho : PE X o (tVar k)) (he : SM X tabs cf es e') : EM X tabs cf (.Call (.Attribute o "pop" apos) es [] cpos) (.mt .pop (.v k) e') :=
  em_pop2 fun ok => hp _ _ ho (he.run ok)

/-! ### what is walked -/
/-- J walks xs, whatever is done meanwhile -/
def JOk (k : Kx) (Z : Addr → Prop) (H : Hp) (J : It) (xs : List D) : Prop := ∀ (Z2 : Addr → Prop) (H2 : Hp), (∀ a, Z a → Z2 a) → Keep Z H H2 → ∀ i,
  (∀ d, xs[i]? = some d → J.go i H2 ∧ ∀ x H3, J.yld i H2 x H3 → (H3 = H2 ∨ ∃ p ho, H2 p = none ∧ H3 = upd H2 p ho) ∧ Rep k Z2 H3 d x) ∧ (xs.length ≤ i → J.stop i H2)
def RdI (k : Kx) (cf : CF) (e : E) : TI := fun σ H R => ∃ Z env xs env', StOk k Z H σ env ∧ evi cf e env = .ok xs env' ∧
  ∀ J Z' H', Go k (tou e .walk) σ Z H env Z' H' env' → JOk k Z' H' J xs → R J H'
structure IM (X : Cx) (tabs : List Addr) (cf : CF) (tg it : Expr) (e' : E) : Prop where
  run : okE e' .walk = true → PI X tg it (RdI (kx X tabs) cf e')
theorem PI.weak {X : Cx} {tg e : Expr} {t t' : TI} (h : PI X tg e t) (hw : ∀ σ H R, t' σ H R → t σ H R) : PI X tg e t' := ⟨fun pins s σ H R I q => h.run pins s σ H R I (hw σ H R q)⟩
theorem jok_list {k : Kx} {Z : Addr → Prop} {H : Hp} {ds : List D} {a : Addr} {vs : List V} (hl : (Z a ∧ Rd H a (.lst vs)) ∨ KL k.K a vs) (r : RepAll k Z H ds vs) : JOk k Z H (Itl k.K a) ds := by
  intro Z2 H2 hz kp i
  have hs := zl_sq (zl_keep kp hz hl)
  have r2 := RepAll.keep kp hz ds r
  refine ⟨fun d hd => ?_, fun hi => ⟨vs, hs, by rw [← RepAll.len _ r]; exact hi⟩⟩
  obtain ⟨v, h1, h2⟩ := RepAll.get _ r2 hd
  refine ⟨⟨vs, v, hs, h1⟩, fun x H3 ⟨e, hy⟩ => ?_⟩
  subst e
  have := hy vs hs
  rw [h1] at this
  cases this
  exact ⟨.inl rfl, h2⟩
theorem jok_tup {k : Kx} {Z : Addr → Prop} {H : Hp} {ds : List D} {a : Addr} {vs : List V} (hl : TupX H a vs) (r : RepAll k Z H ds vs) : JOk k Z H (Itt k.K a) ds := by
  intro Z2 H2 hz kp i
  obtain ⟨ob, hl, _⟩ := hl
  have hs : SqT k.K H2 a vs := .inl (.inr ⟨ob, kp.frz _ _ _ hl⟩)
  have r2 := RepAll.keep kp hz ds r
  refine ⟨fun d hd => ?_, fun hi => ⟨vs, hs, by rw [← RepAll.len _ r]; exact hi⟩⟩
  obtain ⟨v, h1, h2⟩ := RepAll.get _ r2 hd
  refine ⟨⟨vs, v, hs, h1⟩, fun x H3 ⟨e, hy⟩ => ?_⟩
  subst e
  have := hy vs hs
  rw [h1] at this
  cases this
  exact ⟨.inl rfl, h2⟩
theorem okE_walk {e : E} : okE e .walk = okE e (.val false) ∨ single e = false := by
  cases e <;> first | exact .inl rfl | exact .inr rfl
theorem tou_walk {e : E} : tou e .walk = tou e (.val false) ∨ single e = false := by
  cases e <;> first | exact .inl rfl | exact .inr rfl
/-- a for over a list or a tuple, whichever it is -/
def iSeq (K : PySem.W.Frag) (tl : TE) : TI := fun σ H R => tl σ H fun x H1 => ∃ a, x = .ref a ∧ (((∃ xs, SqL K H1 a xs) ∧ R (Itl K a) H1) ∨ ((∃ xs, SqT K H1 a xs) ∧ R (Itt K a) H1))
theorem pi_seq {tg l : Expr} {tl : TE} (hl : PE X l tl) : PI X tg l (iSeq X.K tl) := by
  refine ⟨fun pins s σ H R I h => ?_⟩
  refine thn (hl.run pins s σ H _ I h) fun v s1 ⟨x, H1, I1, r1, q1⟩ => ?_
  obtain ⟨a, e, ⟨⟨xs, hq⟩, q⟩ | ⟨⟨xs, hq⟩, q⟩⟩ := q1
  · subst e
    cases r1
    obtain ⟨its, rv, p, hz⟩ := I1.list hq
    refine wpAny_pyIter_list p.isList ?_
    refine ⟨s1.heap.objs.size, [s1.heap.objs.size], _, _, H1, rfl, I1.kept (t' := s1.toks) fun b o e => Heap.get?_push_of_some _ e, turn_list a _, ⟨_, Heap.get?_push_size _ rfl, rfl, rfl⟩, fun b hb => ?_, q⟩
    have e : b = s1.heap.objs.size := by simpa using hb
    subst e
    exact I1.fpOk (Nat.le_refl _) (I1.hok.fresh (Nat.le_refl _))
  · subst e
    cases r1
    obtain ⟨its, rv, p, hz⟩ := I1.tuple hq
    refine wpAny_pyIter_tuple (show s1.heap.IsTuple a its.toArray from p) ?_
    refine ⟨s1.heap.objs.size, [s1.heap.objs.size], _, _, H1, rfl, I1.kept (t' := s1.toks) fun b o e => Heap.get?_push_of_some _ e, turn_tuple a _, ⟨_, Heap.get?_push_size _ rfl, rfl, rfl⟩, fun b hb => ?_, q⟩
    have e : b = s1.heap.objs.size := by simpa using hb
    subst e
    exact I1.fpOk (Nat.le_refl _) (I1.hok.fresh (Nat.le_refl _))
theorem im_seq {tg : Expr} (h1 : single a' = true) (h2 : ∀ b es, a' = .bi b es → isWalk b = false) (ha : EM X tabs cf a a') : IM X tabs cf tg a a' := by
  refine ⟨fun ok => ?_⟩
  rcases okE_walk (e := a') with o1 | o1
  · rw [o1] at ok
    refine Sw.PI.weak (pi_seq (ha.run false ok)) fun σ H R h => ?_
    obtain ⟨Z, env, xs, env', st, he, q⟩ := h
    rw [evi_eq h1 h2] at he
    obtain ⟨x, env1, he1, he⟩ := Res.bind_ok he
    obtain ⟨hf, rfl⟩ := Res.of_ok he
    refine ⟨Z, env, x, _, st, he1, fun v Z1 H1 g1 r1 => ?_⟩
    have ht : tou a' .walk = tou a' (.val false) := by
      rcases tou_walk (e := a') with t1 | t1
      · exact t1
      · rw [h1] at t1; cases t1
    rcases seqOf_d hf with e1 | e1
    · obtain ⟨p, vs, rfl, hs, r⟩ := (TRep.view (xs := []) r1.t).tup e1
      refine ⟨p, rfl, .inr ⟨⟨vs, hs.sq⟩, q _ Z1 H1 (by rw [ht]; exact g1) (jok_tup hs r)⟩⟩
    · obtain ⟨Z2, g2, r2, _⟩ := TRep.freeze g1 r1.t e1
      simp only [Rep] at r2
      obtain ⟨p, vs, rfl, hs, r⟩ := r2
      exact ⟨p, rfl, .inl ⟨⟨vs, zl_sq hs⟩, q _ Z2 H1 (by rw [ht]; exact g2) (jok_list hs r)⟩⟩
  · rw [h1] at o1; cases o1
/-- range -/
theorem jok_range {k : Kx} {Z : Addr → Prop} {H : Hp} (lo c : Int) (n : Nat) : JOk k Z H (Itc lo c n) ((List.range n).map fun (i : Nat) => D.int (lo + (i : Int) * c)) := by
  intro Z2 H2 hz kp i
  refine ⟨fun d hd => ?_, fun hi => (show n ≤ i by simpa using hi)⟩
  rw [List.getElem?_map] at hd
  cases hr : (List.range n)[i]? with
  | none => rw [hr] at hd; cases hd
  | some j =>
    rw [hr] at hd
    cases hd
    obtain ⟨h1, h2⟩ := List.getElem?_eq_some_iff.mp hr
    rw [List.getElem_range] at h2
    subst h2
    refine ⟨(show i < n by simpa using h1), fun x H3 ⟨e, hy⟩ => ?_⟩
    subst e hy
    exact ⟨.inl rfl, rfl⟩
theorem jok_itr {k : Kx} {Z : Addr → Prop} {H : Hp} (lo : Int) (n : Nat) : JOk k Z H (Itr lo n) ((List.range n).map fun (i : Nat) => D.int (lo + (i : Int) * 1)) := by
  intro Z2 H2 hz kp i
  refine ⟨fun d hd => ?_, fun hi => (show n ≤ i by simpa using hi)⟩
  rw [List.getElem?_map] at hd
  cases hr : (List.range n)[i]? with
  | none => rw [hr] at hd; cases hd
  | some j =>
    rw [hr] at hd
    cases hd
    obtain ⟨h1, h2⟩ := List.getElem?_eq_some_iff.mp hr
    rw [List.getElem_range] at h2
    subst h2
    refine ⟨(show i < n by simpa using h1), fun x H3 ⟨e, hy⟩ => ?_⟩
    subst e hy
    refine ⟨.inl rfl, ?_⟩
    show V.int _ = V.int _
    rw [Int.mul_one]
theorem evi_walk {b : BI} {es : E} {env : En} (h : isWalk b = true) : evi cf (.bi b es) env = (evs cf es env).bind fun ds env => Res.of (walkB b ds) env := by
  unfold evi
  rw [ev1, if_pos h]
  show asDs ((evs cf es env).bind fun ds env => Res.of ((walkB b ds).map Out.ds) env) = _
  cases evs cf es env with
  | ok ds e =>
    show asDs (Res.of _ _) = Res.of _ _
    cases walkB b ds <;> rfl
  | _ => rfl
theorem rangeL_some {lo hi st : Int} {xs : List D} (h : rangeL lo hi st = some xs) : (-(2 ^ 60) ≤ lo ∧ lo < 2 ^ 60 ∧ -(2 ^ 60) ≤ hi ∧ hi < 2 ^ 60 ∧ 0 < st ∧ st < 2 ^ 29) ∧ xs = (List.range ((hi - lo + st - 1) / st).toNat).map fun (k : Nat) => D.int (lo + (k : Int) * st) := by
  unfold rangeL at h
  split at h
  · cases h; exact ⟨‹_›, rfl⟩
  · cases h
theorem evs_len {es : List E} {env env' : En} {ds : List D} (h : evs cf (es.foldr E.cons E.nil) env = .ok ds env') : ds.length = es.length := by
  induction es generalizing env ds env' with
  | nil => cases h; rfl
  | cons a es ih =>
    rw [List.foldr_cons, evs_cons] at h
    obtain ⟨x, e1, h1, h⟩ := Res.bind_ok h
    obtain ⟨ds', e2, h2, h⟩ := Res.bind_ok h
    obtain ⟨hf, rfl⟩ := Res.of_ok h
    cases hx : x.d with
    | none => rw [hx] at hf; cases hf
    | some d =>
      rw [hx] at hf
      cases hf
      simp [ih h2]
theorem im_range1 {tg : Expr} {p : Pos} (hp : ∀ ta, PA X [a] ta → PI X tg (.Call (.Name "range" p) [a] [] pos) (iRng1 ta)) (h : SM X tabs cf [a] (.cons a' .nil)) : IM X tabs cf tg (.Call (.Name "range" p) [a] [] pos) (.bi .range (.cons a' .nil)) := by
  refine ⟨fun ok => Sw.PI.weak (hp _ (h.run ok)) fun σ H R h => ?_⟩
  obtain ⟨Z, env, xs, env', st, he, q⟩ := h
  rw [evi_walk rfl] at he
  obtain ⟨ds, env1, h1, he⟩ := Res.bind_ok he
  obtain ⟨hf, rfl⟩ := Res.of_ok he
  refine ⟨Z, env, ds, _, st, h1, fun vs Z1 H1 g1 r1 => ?_⟩
  have hf : rangeOf ds = some xs := hf
  have hlen := evs_len (es := [a']) h1
  match ds, hf, r1, hlen with
  | [.int n], hf, r1, _ =>
    simp only [RepAll] at r1
    obtain ⟨v, _, rfl, rfl, rfl⟩ := r1
    obtain ⟨hb, rfl⟩ := rangeL_some hf
    refine ⟨n, rfl, by omega, by omega, q _ Z1 H1 g1 ?_⟩
    have e : ((n - 0 + 1 - 1) / 1).toNat = n.toNat := by rw [Int.ediv_one]; congr 1; omega
    rw [e]
    exact jok_itr 0 n.toNat
theorem im_range2 {tg : Expr} {p : Pos} (hp : ∀ ta, PA X [a, b] ta → PI X tg (.Call (.Name "range" p) [a, b] [] pos) (iRng2 ta)) (h : SM X tabs cf [a, b] (.cons a' (.cons b' .nil))) : IM X tabs cf tg (.Call (.Name "range" p) [a, b] [] pos) (.bi .range (.cons a' (.cons b' .nil))) := by
  refine ⟨fun ok => Sw.PI.weak (hp _ (h.run ok)) fun σ H R h => ?_⟩
  obtain ⟨Z, env, xs, env', st, he, q⟩ := h
  rw [evi_walk rfl] at he
  obtain ⟨ds, env1, h1, he⟩ := Res.bind_ok he
  obtain ⟨hf, rfl⟩ := Res.of_ok he
  refine ⟨Z, env, ds, _, st, h1, fun vs Z1 H1 g1 r1 => ?_⟩
  have hf : rangeOf ds = some xs := hf
  have hlen := evs_len (es := [a', b']) h1
  match ds, hf, r1, hlen with
  | [.int n, .int m], hf, r1, _ =>
    simp only [RepAll] at r1
    obtain ⟨v, _, rfl, rfl, w, _, rfl, rfl, rfl⟩ := r1
    obtain ⟨hb, rfl⟩ := rangeL_some hf
    refine ⟨n, m, rfl, ⟨by omega, by omega, by omega, by omega⟩, q _ Z1 H1 g1 ?_⟩
    have e : ((m - n + 1 - 1) / 1).toNat = (m - n).toNat := by rw [Int.ediv_one]; congr 1; omega
    rw [e]
    exact jok_itr n _
theorem rgC_of {lo hi st : Int} (h1 : -(2 ^ 60) ≤ lo) (h2 : lo < 2 ^ 60) (h3 : -(2 ^ 60) ≤ hi) (h4 : hi < 2 ^ 60) (h5 : 0 < st) (h6 : st < 2 ^ 29) : RgC lo hi st ((hi - lo + st - 1) / st).toNat := by
  have hsz : Builtin.Range.rangeSize lo hi st = (((hi - lo + st - 1) / st).toNat : Int) := by
    unfold Builtin.Range.rangeSize
    rw [if_pos (show st > 0 from h5)]
    split
    · rename_i h
      have e : hi - lo + st - 1 = (hi - lo - 1) + 1 * st := by omega
      rw [e, Int.add_mul_ediv_right _ _ (by omega)]
      have : 0 ≤ (hi - lo - 1) / st := Int.ediv_nonneg (by omega) (by omega)
      omega
    · rename_i h
      have : (hi - lo + st - 1) / st ≤ 0 := by
        have : (hi - lo + st - 1) / st < 1 := Int.ediv_lt_of_lt_mul h5 (by omega)
        omega
      omega
  have hle : (((hi - lo + st - 1) / st).toNat : Int) < 2 ^ 62 := by
    by_cases hp : 0 ≤ hi - lo + st - 1
    · have := Int.ediv_le_self st hp
      omega
    · have : (hi - lo + st - 1) / st < 0 := Int.ediv_neg_of_neg_of_pos (by omega) h5
      omega
  refine ⟨by omega, by omega, ?_, hsz⟩
  unfold Builtin.Range.small
  rw [hsz, if_pos (show st > 0 from h5)]
  simp only [Builtin.Range.rangeFitsLong, Bool.and_eq_true, Bool.or_eq_true, decide_eq_true_eq]
  refine ⟨⟨⟨⟨?_, ?_⟩, ?_⟩, ?_⟩, .inr ?_⟩ <;> first | exact ⟨by omega, by omega⟩ | omega
theorem im_range3 {c : Expr} {c' : E} {tg : Expr} {p : Pos} (hp : ∀ ta, PA X [a, b, c] ta → PI X tg (.Call (.Name "range" p) [a, b, c] [] pos) (iRng3 ta)) (h : SM X tabs cf [a, b, c] (.cons a' (.cons b' (.cons c' .nil)))) : IM X tabs cf tg (.Call (.Name "range" p) [a, b, c] [] pos) (.bi .range (.cons a' (.cons b' (.cons c' .nil)))) := by
  refine ⟨fun ok => Sw.PI.weak (hp _ (h.run ok)) fun σ H R h => ?_⟩
  obtain ⟨Z, env, xs, env', st, he, q⟩ := h
  rw [evi_walk rfl] at he
  obtain ⟨ds, env1, h1, he⟩ := Res.bind_ok he
  obtain ⟨hf, rfl⟩ := Res.of_ok he
  refine ⟨Z, env, ds, _, st, h1, fun vs Z1 H1 g1 r1 => ?_⟩
  have hf : rangeOf ds = some xs := hf
  have hlen := evs_len (es := [a', b', c']) h1
  match ds, hf, r1, hlen with
  | [.int n, .int m, .int l], hf, r1, _ =>
    simp only [RepAll] at r1
    obtain ⟨v, _, rfl, rfl, w, _, rfl, rfl, u, _, rfl, rfl, rfl⟩ := r1
    obtain ⟨hb, rfl⟩ := rangeL_some hf
    exact ⟨n, m, l, _, rfl, rgC_of hb.1 hb.2.1 hb.2.2.1 hb.2.2.2.1 hb.2.2.2.2.1 hb.2.2.2.2.2, q _ Z1 H1 g1 (jok_range n l _)⟩
end
end Sw

set_option Elab.async false
set_option linter.all false
set_option maxRecDepth 100000
/-! Targets, statements. -/
namespace Sw
open PySem PySem.Spec PyProof.Rows L2
/-- from one state to another, slots stored meanwhile -/
structure GoS (k : Kx) (σ : L2.St) (env : En) (Z : Addr → Prop) (H : Hp) (σ' : L2.St) (env' : En) (Z' : Addr → Prop) (H' : Hp) : Prop where
  zz : ∀ a, Z a → Z' a
  zn : ∀ a, Z' a → Z a ∨ H a = none ∨ ∃ i, OwnAt σ env i a
  keep : ∀ a o, H a = some o → a ∉ k.tabs → (∀ i, ¬ OwnAt σ env i a) → H' a = some o
  there : ∀ a, H' a = none → H a = none
  own : ∀ (i : Nat) a, OwnAt σ' env' i a → (∃ j, OwnAt σ env j a) ∨ H a = none
  lent : ∀ (i : Nat), Lent env i → Lent env' i ∧ σ'[i]? = σ[i]?
  st : StOk k Z' H' σ' env'
section
variable {k : Kx} {σ σ1 σ2 : L2.St} {env env1 env2 : En} {Z Z1 Z2 : Addr → Prop} {H H1 H2 : Hp}
theorem Go.s {t : List Nat} (g : Go k t σ Z H env Z1 H1 env1) : GoS k σ env Z H σ env1 Z1 H1 :=
  ⟨g.zz, g.zn, fun a o h ht hn => g.keep a o h ht fun i _ => hn i, g.there, fun i a h => .inl ⟨i, g.sub i a h⟩, fun i h => ⟨g.lent i h, rfl⟩, g.st⟩
theorem GoS.keepK (s : StOk k Z H σ env) (g : GoS k σ env Z H σ1 env1 Z1 H1) : Keep Z H H1 where
  tup := fun a xs h => g.keep a _ h (s.noTab h fun _ q => by cases q) fun i o => by
    rcases (s.noOwn o).2 with ⟨_, q⟩ | ⟨_, _, q⟩ <;> rw [h] at q <;> cases q
  frz := fun a o u h => g.keep a _ h (s.noTab h fun _ q => by cases q) fun i ow => by
    rcases (s.noOwn ow).2 with ⟨_, q⟩ | ⟨_, _, q⟩ <;> rw [h] at q <;> cases q
  lst := fun a xs z h => g.keep a _ h (s.noTab h fun _ q => by cases q) fun i o => (s.noOwn o).1 z
theorem GoS.trans (a : GoS k σ env Z H σ1 env1 Z1 H1) (b : GoS k σ1 env1 Z1 H1 σ2 env2 Z2 H2) : GoS k σ env Z H σ2 env2 Z2 H2 where
  zz := fun x h => b.zz x (a.zz x h)
  zn := fun x h => by
    rcases b.zn x h with q | q | ⟨i, q⟩
    · exact a.zn x q
    · exact .inr (.inl (a.there x q))
    · rcases a.own i x q with ⟨j, q⟩ | q
      · exact .inr (.inr ⟨j, q⟩)
      · exact .inr (.inl q)
  keep := fun x o h ht hn => b.keep x o (a.keep x o h ht hn) ht fun i z => by
    rcases a.own i x z with ⟨j, q⟩ | q
    · exact hn j q
    · rw [h] at q; cases q
  there := fun x h => a.there x (b.there x h)
  own := fun i x h => by
    rcases b.own i x h with ⟨j, q⟩ | q
    · exact a.own j x q
    · exact .inr (a.there x q)
  lent := fun i h => ⟨(b.lent i (a.lent i h).1).1, (b.lent i (a.lent i h).1).2.trans (a.lent i h).2⟩
  st := b.st
theorem GoS.refl (s : StOk k Z H σ env) : GoS k σ env Z H σ env Z H := (Go.refl (t := []) s).s
/-- a new object -/
theorem GoS.new {p : Addr} {o : HO} (a : GoS k σ env Z H σ1 env1 Z1 H1) (h : H1 p = none) : GoS k σ env Z H σ1 env1 Z1 (upd H1 p o) :=
  ⟨a.zz, a.zn, fun x u e ht hn => by
    have q := a.keep x u e ht hn
    rw [upd_ne (ne_of_none q h)]; exact q, fun x e => a.there x (by
    by_cases hx : x = p
    · subst hx; exact h
    · rw [upd_ne hx] at e; exact e), a.own, a.lent, a.st.new h⟩
/-- a slot is stored -/
theorem put_some {i : Nat} {t : T} {env' : En} (h : put env i t = some env') : canSet env i = true ∧ env' = setW env i (ofT t) := by
  unfold put at h
  split at h
  · cases h; exact ⟨‹_›, rfl⟩
  · cases h
theorem canSet_at {i : Nat} (h : canSet env i = true) : (∃ w, env[i]? = some w) ∧ ¬ Lent env i := by
  unfold canSet at h
  split at h
  · cases h
  · cases h
  · rename_i w h1 h2 e
    refine ⟨⟨w, e⟩, fun q => ?_⟩
    rcases q with ⟨o, q⟩ | ⟨ds, q⟩
    · rw [e] at q; cases q; exact h1 o rfl
    · rw [e] at q; cases q; exact h2 ds rfl
  · cases h
/-- a value behind a statement, by where one stood ahead of it -/
def RRep (k : Kx) (σ : L2.St) (env : En) (H : Hp) (Z' : Addr → Prop) (H' : Hp) (σ' : L2.St) (env' : En) : T → V → Prop
  | .im d, v => Rep k Z' H' d v
  | .nu o, v => ∃ a, v = .ref a ∧ ORep k Z' H' a o ∧ ¬ Z' a ∧ (∀ i, ¬ OwnAt σ' env' i a) ∧ (H a = none ∨ ∃ j, OwnAt σ env j a)
theorem TRep.r {t : T} {v : V} (h : TRep k H Z1 H1 σ env1 t v) : RRep k σ env H Z1 H1 σ env1 t v := by
  cases t with
  | im d => exact h
  | nu o => obtain ⟨a, e, r, z, f, n⟩ := h; exact ⟨a, e, r, z, n, .inl f⟩
theorem RRep.back (g : GoS k σ env Z H σ1 env1 Z1 H1) {t : T} {v : V} (h : RRep k σ1 env1 H1 Z2 H2 σ2 env2 t v) : RRep k σ env H Z2 H2 σ2 env2 t v := by
  cases t with
  | im d => exact h
  | nu o =>
    obtain ⟨a, e, r, z, n, f⟩ := h
    refine ⟨a, e, r, z, n, ?_⟩
    rcases f with f | ⟨j, f⟩
    · exact .inl (g.there a f)
    · rcases g.own j a f with q | q
      · exact .inr q
      · exact .inl q
theorem GoS.store (g : GoS k σ env Z H σ1 env1 Z1 H1) {i : Nat} {t : T} {v : V} (h : put env1 i t = some env2) (r : RRep k σ env H Z1 H1 σ1 env1 t v) : GoS k σ env Z H (σ1.set i (some v)) env2 Z1 H1 := by
  obtain ⟨hc, rfl⟩ := put_some h
  obtain ⟨⟨w, hw⟩, hl⟩ := canSet_at hc
  have hi : i < env1.length := (List.getElem?_eq_some_iff.mp hw).1
  have his : i < σ1.length := by rw [← g.st.len]; exact hi
  have at_ : (σ1.set i (some v))[i]? = some (some v) := List.getElem?_set_self his
  have ne_ : ∀ j, j ≠ i → (σ1.set i (some v))[j]? = σ1[j]? := fun j hj => List.getElem?_set_ne (Ne.symm hj)
  have hown : ∀ j a, j ≠ i → OwnAt (σ1.set i (some v)) (setW env1 i (ofT t)) j a → OwnAt σ1 env1 j a := fun j a hj ⟨⟨b, o, q⟩, q2⟩ => by
    rw [setW_ne hj] at q
    rw [ne_ j hj] at q2
    exact ⟨⟨b, o, q⟩, q2⟩
  have hat : ∀ a, OwnAt (σ1.set i (some v)) (setW env1 i (ofT t)) i a → ∃ o, t = .nu o ∧ v = .ref a := fun a ⟨⟨b, o, q⟩, q2⟩ => by
    rw [setW_same hw] at q
    rw [at_] at q2
    cases t with
    | im d => cases q
    | nu o' => cases q2; exact ⟨o', rfl, rfl⟩
  refine ⟨g.zz, g.zn, g.keep, g.there, fun j a q => ?_, fun j q => ?_, ?_⟩
  · by_cases hj : j = i
    · subst hj
      obtain ⟨o, rfl, rfl⟩ := hat a q
      obtain ⟨a', e, _, _, _, f⟩ := r
      cases e
      rcases f with f | f
      · exact .inr f
      · exact .inl f
    · exact g.own j a (hown j a hj q)
  · have hj : j ≠ i := fun z => hl (z ▸ (g.lent j q).1)
    refine ⟨?_, (ne_ j hj).trans (g.lent j q).2⟩
    unfold Lent
    rw [setW_ne hj]
    exact (g.lent j q).1
  · refine ⟨by unfold setW; rw [List.length_set, List.length_set]; exact g.st.len, fun j d q => ?_, fun j d q => ?_, fun j b o q => ?_, fun j l a q1 q2 => ?_, g.st.tab, g.st.zh⟩
    · by_cases hj : j = i
      · subst hj
        rw [setW_same hw] at q
        cases t with
        | im d' => cases q; exact ⟨v, at_, r⟩
        | nu o => cases q
      · rw [setW_ne hj] at q
        obtain ⟨u, q1, q2⟩ := g.st.im j d q
        exact ⟨u, (ne_ j hj).trans q1, q2⟩
    · by_cases hj : j = i
      · subst hj
        rw [setW_same hw] at q
        cases t <;> cases q
      · rw [setW_ne hj] at q
        obtain ⟨u, q1, q2⟩ := g.st.fz j d q
        exact ⟨u, (ne_ j hj).trans q1, q2⟩
    · by_cases hj : j = i
      · subst hj
        rw [setW_same hw] at q
        cases t with
        | im d' => cases q
        | nu o' =>
          cases q
          obtain ⟨a', e, h1, h2, _⟩ := r
          exact ⟨a', by rw [at_, e], h1, h2⟩
      · rw [setW_ne hj] at q
        obtain ⟨u, q1, q2⟩ := g.st.mu j b o q
        exact ⟨u, (ne_ j hj).trans q1, q2⟩
    · by_cases hj : j = i
      · by_cases hl : l = i
        · rw [hj, hl]
        · subst hj
          obtain ⟨o, rfl, rfl⟩ := hat a q1
          obtain ⟨a', e, _, _, n, _⟩ := r
          cases e
          exact absurd (hown l a hl q2) (n l)
      · by_cases hl : l = i
        · subst hl
          obtain ⟨o, rfl, rfl⟩ := hat a q2
          obtain ⟨a', e, _, _, n, _⟩ := r
          cases e
          exact absurd (hown j a hj q1) (n j)
        · exact g.st.inj j l a (hown j a hj q1) (hown l a hl q2)
end

/-! ### targets -/
def RdG (k : Kx) (g : G) : TG := fun v σ H Q => ∃ Z env d env', StOk k Z H σ env ∧ Rep k Z H d v ∧ give g d env = some env' ∧ ∀ σ', GoS k σ env Z H σ' env' Z H → (∀ i, i ∉ g.sl → σ'[i]? = σ[i]?) → Q σ' H
def RdGs (k : Kx) (g : G) : TGs := fun vs σ H Q => ∃ Z env ds env', StOk k Z H σ env ∧ RepAll k Z H ds vs ∧ gives g ds env = some env' ∧ ∀ σ', GoS k σ env Z H σ' env' Z H → (∀ i, i ∉ g.sl → σ'[i]? = σ[i]?) → Q σ' H
theorem PG.weak {X : Cx} {e : Expr} {t t' : TG} (h : PG X e t) (hw : ∀ v σ H Q, t' v σ H Q → t v σ H Q) : PG X e t' := ⟨fun pins s σ H v u Q I r q => h.run pins s σ H v u Q I r (hw v σ H Q q)⟩
theorem PGs.weak {X : Cx} {e : List Expr} {t t' : TGs} (h : PGs X e t) (hw : ∀ v σ H Q, t' v σ H Q → t v σ H Q) : PGs X e t' := ⟨fun pins s σ H v u Q I r q => h.run pins s σ H v u Q I r (hw v σ H Q q)⟩
section
variable {X : Cx} {tabs : List Addr} {cf : CF} {a b c : Expr} {a' b' c' : E} {pos : Pos}
theorem gm_n {i : Nat} {x : Str} (hN : X.N.Nodup) (hi : X.N[i]? = some x) (hx : Loc X.env.scope x) (hf : X.fn x = true ∨ X.env.scope.names.lookup x = some .local) : PG X (.Name x pos) (RdG (kx X tabs) (.n i)) := by
  refine Sw.PG.weak (pg_name hN hi hx hf) fun v σ H Q h => ?_
  obtain ⟨Z, env, d, env', st, r, hg, q⟩ := h
  exact q _ ((GoS.refl st).store (t := .im d) hg r) fun j hj => List.getElem?_set_ne fun e => hj (by rw [← e]; exact List.mem_singleton.mpr rfl)
theorem gms_nil : PGs X [] (RdGs (kx X tabs) .nil) := by
  refine Sw.PGs.weak pgs_nil fun vs σ H Q h => ?_
  obtain ⟨Z, env, ds, env', st, r, hg, q⟩ := h
  cases ds with
  | cons _ _ => cases hg
  | nil =>
    cases hg
    exact ⟨by simpa only [RepAll] using r, q σ (GoS.refl st) fun _ _ => rfl⟩
theorem gms_cons {e : Expr} {es : List Expr} {g1 g2 : G} (hs : (assignEach (e :: es) X.env).map (·.2) = assign e X.env :: (assignEach es X.env).map (·.2)) (h1 : PG X e (RdG (kx X tabs) g1)) (h2 : PGs X es (RdGs (kx X tabs) g2)) : PGs X (e :: es) (RdGs (kx X tabs) (.cons g1 g2)) := by
  refine Sw.PGs.weak (pgs_cons h1 h2 hs) fun vs σ H Q h => ?_
  obtain ⟨Z, env, ds, env', st, r, hg, q⟩ := h
  cases ds with
  | nil => cases hg
  | cons d ds =>
    simp only [RepAll] at r
    obtain ⟨v, r0, rfl, r1, r2⟩ := r
    unfold gives at hg
    split at hg
    · rename_i env1 hg1
      refine ⟨v, r0, rfl, Z, env, d, env1, st, r1, hg1, fun σ1 g1 h1 => ⟨Z, env1, ds, env', g1.st, r2, hg, fun σ2 g2 h2 => q σ2 (g1.trans g2) fun i hi => (h2 i fun z => hi (List.mem_append_right _ z)).trans (h1 i fun z => hi (List.mem_append_left _ z))⟩⟩
    · cases hg
theorem gm_t {es : List Expr} {kk n : Nat} {gs : G} (hc : X.calm = true) (hn : (assignEach es X.env).length = n) (hst : (assignEach es X.env).findIdx? (·.1) = none) (hl : ∀ ds env env', gives gs ds env = some env' → ds.length = n) (h : PGs X es (RdGs (kx X tabs) gs)) : PG X (.Tuple es kk pos) (RdG (kx X tabs) (.t gs)) := by
  have both : PG X (.Tuple es kk pos) (fun v σ H Q => gTup X.K n (RdGs (kx X tabs) gs) v σ H Q ∨ gUnl X.K n (RdGs (kx X tabs) gs) v σ H Q) := ⟨fun pins s σ H v u Q I r hw => hw.elim (fun hw => (pg_tup hc h hn hst).run pins s σ H v u Q I r hw) fun hw => (pg_unl hc h hn hst).run pins s σ H v u Q I r hw⟩
  refine Sw.PG.weak both fun v σ H Q h => ?_
  obtain ⟨Z, env, d, env', st, r, hg, q⟩ := h
  cases d with
  | lst ds =>
    have hg : gives gs ds env = some env' := hg
    obtain ⟨p, vs, rfl, h1, r⟩ := VRep.lst (t := .im (.lst ds)) (σ := σ) (env := env) (xs := []) r rfl
    exact .inr ⟨p, vs, rfl, h1, by rw [← RepAll.len _ r]; exact hl _ _ _ hg, Z, env, ds, env', st, r, hg, q⟩
  | tup ds =>
    simp only [Rep] at r
    obtain ⟨p, vs, rfl, h1, r⟩ := r
    have hg : gives gs ds env = some env' := hg
    exact .inl ⟨p, vs, rfl, h1.sq, by rw [← RepAll.len _ r]; exact hl _ _ _ hg, Z, env, ds, env', st, r, hg, q⟩
  | pr ds =>
    simp only [Rep] at r
    obtain ⟨p, vs, rfl, h1, r⟩ := r
    have hg : gives gs ds env = some env' := hg
    exact .inl ⟨p, vs, rfl, .of h1, by rw [← RepAll.len _ r]; exact hl _ _ _ hg, Z, env, ds, env', st, r, hg, q⟩
  | _ => cases hg
/-- how many targets -/
def G.len : G → Nat
  | .cons _ b => G.len b + 1
  | _ => 0
theorem gives_len : ∀ (g : G) (ds : List D) (env env' : En), gives g ds env = some env' → ds.length = g.len
  | .nil, [], _, _, _ => rfl
  | .nil, _ :: _, _, _, h => by cases h
  | .cons a b, [], _, _, h => by cases h
  | .cons a b, d :: ds, env, env', h => by
    unfold gives at h
    split at h
    · rename_i env1 hg1
      show ds.length + 1 = b.len + 1
      rw [gives_len b ds _ _ h]
    · cases h
  | .n _, ds, _, _, h => by cases ds <;> cases h
  | .t _, ds, _, _, h => by cases ds <;> cases h

/-! ### statements -/
def RdX (k : Kx) (cf : CF) (s : S) : TS := fun D σ H => ∃ Z env fl env', StOk k Z H σ env ∧ sx cf s env = .ok fl env' ∧ ∀ σ' Z' H', GoS k σ env Z H σ' env' Z' H' →
  match fl with
  | .nx => D.nx σ' H'
  | .bk => D.bk σ' H'
  | .ct => D.ct σ' H'
  | .rt t => ∀ v, RRep k σ env H Z' H' σ' env' t v → D.rt v H'
theorem PS.weak {X : Cx} {st : Stmt} {t t' : TS} (h : PS X st t) (hw : ∀ D σ H, t' D σ H → t D σ H) : PS X st t' := ⟨fun pins s σ H D I q => h.run pins s σ H D I (hw D σ H q)⟩
theorem PSs.weak {X : Cx} {st : List Stmt} {t t' : TS} (h : PSs X st t) (hw : ∀ D σ H, t' D σ H → t D σ H) : PSs X st t' := ⟨fun pins s σ H D I q => h.run pins s σ H D I (hw D σ H q)⟩
structure SX (X : Cx) (tabs : List Addr) (cf : CF) (st : Stmt) (s : S) : Prop where
  run : okS s = true → PS X st (RdX (kx X tabs) cf s)
structure BX (X : Cx) (tabs : List Addr) (cf : CF) (st : List Stmt) (s : S) : Prop where
  run : okS s = true → PSs X st (RdX (kx X tabs) cf s)
theorem bx_nil : BX X tabs cf [] .skip := by
  refine ⟨fun _ => Sw.PSs.weak pss_nil fun D σ H h => ?_⟩
  obtain ⟨Z, env, fl, env', st, he, q⟩ := h
  cases he
  exact q σ Z H (GoS.refl st)
theorem bx_one {st : Stmt} {s : S} (h : SX X tabs cf st s) : BX X tabs cf [st] s := ⟨fun ok => pss_one (h.run ok)⟩
theorem bx_cons {st : Stmt} {sts : List Stmt} {s1 s2 : S} (h1 : SX X tabs cf st s1) (h2 : BX X tabs cf sts s2) : BX X tabs cf (st :: sts) (.seq s1 s2) := by
  refine ⟨fun ok => ?_⟩
  simp only [okS, Bool.and_eq_true] at ok
  refine Sw.PSs.weak (pss_cons (h1.run ok.1) (h2.run ok.2)) fun D σ H h => ?_
  obtain ⟨Z, env, fl, env', st, he, q⟩ := h
  obtain ⟨f, env1, he1, he⟩ := Res.bind_ok (show (sx cf s1 env).bind _ = _ from he)
  refine ⟨Z, env, f, env1, st, he1, fun σ1 Z1 H1 g1 => ?_⟩
  cases f with
  | nx =>
    refine ⟨Z1, env1, fl, env', g1.st, he, fun σ2 Z2 H2 g2 => ?_⟩
    have q2 := q σ2 Z2 H2 (g1.trans g2)
    cases fl with
    | rt t => exact fun v r => q2 v (r.back g1)
    | _ => exact q2
  | bk => cases he; exact q σ1 Z1 H1 g1
  | ct => cases he; exact q σ1 Z1 H1 g1
  | rt t => cases he; exact q σ1 Z1 H1 g1
theorem sx_ex {e : Expr} {e' : E} (hs : swapsWith e none pos.line X.env = pure false) (h : EM X tabs cf e e') : SX X tabs cf (.Expr e pos) (.ex e') := by
  refine ⟨fun ok => Sw.PS.weak (ps_expr (h.run true ok) hs) fun D σ H h => ?_⟩
  obtain ⟨Z, env, fl, env', st, he, q⟩ := h
  obtain ⟨t, env1, he1, he⟩ := Res.bind_ok (show (ev cf e' true env).bind _ = _ from he)
  cases he
  exact ⟨Z, env, t, _, st, he1, fun v Z1 H1 g1 r1 => q σ Z1 H1 g1.s⟩
theorem sx_ret {e : Expr} {e' : E} (hn : slotOf e' = none) (h : EM X tabs cf e e') : SX X tabs cf (.Return (some e) pos) (.ret e') := by
  refine ⟨fun ok => Sw.PS.weak (ps_ret (h.run false ok)) fun D σ H h => ?_⟩
  obtain ⟨Z, env, fl, env', st, he, q⟩ := h
  have he2 : ((ev cf e' false env).bind fun t env => .ok (.rt t) env) = .ok fl env' := by
    cases e' <;> first | exact he | cases hn
  obtain ⟨t, env1, he1, he2⟩ := Res.bind_ok he2
  cases he2
  exact ⟨Z, env, t, _, st, he1, fun v Z1 H1 g1 r1 => q σ Z1 H1 g1.s v r1.t.r⟩
theorem sx_ite {c : Expr} {c' : E} {p q : List Stmt} {s1 s2 : S} (hc : TM X tabs cf c c') (h1 : BX X tabs cf p s1) (h2 : BX X tabs cf q s2) : SX X tabs cf (.If c p q pos) (.ite c' s1 s2) := by
  refine ⟨fun ok => ?_⟩
  simp only [okS, Bool.and_eq_true] at ok
  refine Sw.PS.weak (ps_if (hc.run ok.1) (h1.run ok.2.1) (h2.run ok.2.2)) fun D σ H h => ?_
  obtain ⟨Z, env, fl, env', st, he, q⟩ := h
  obtain ⟨kk, env1, he1, he⟩ := Res.bind_ok (show (truthR (ev cf c' true env)).bind _ = _ from he)
  refine ⟨Z, env, kk, env1, st, he1, fun Z1 H1 g1 => ?_⟩
  have fin : ∀ s, sx cf s env1 = .ok fl env' → RdX (kx X tabs) cf s D σ H1 := fun s hs => by
    refine ⟨Z1, env1, fl, env', g1.st, hs, fun σ2 Z2 H2 g2 => ?_⟩
    have q2 := q σ2 Z2 H2 (g1.s.trans g2)
    cases fl with
    | rt t => exact fun v r => q2 v (r.back g1.s)
    | _ => exact q2
  cases kk with
  | true => exact iteT (fin s1 he)
  | false => exact iteF (fin s2 he)
/-- x = e, x a name -/
theorem sx_set {x : Str} {i : Nat} {e : Expr} {e' : E} {pos' : Pos} (hN : X.N.Nodup) (hi : X.N[i]? = some x) (hx : Loc X.env.scope x) (hs : swapsWith e (some (.Name x pos')) pos.line X.env = pure false) (hf : X.fn x = true ∨ X.env.scope.names.lookup x = some .local) (h : EM X tabs cf e e') : SX X tabs cf (.Assign [.Name x pos'] e pos) (.asg (.n i) e') := by
  refine ⟨fun ok => Sw.PS.weak (ps_set hN hi hx (h.run false ok) hs hf) fun D σ H h => ?_⟩
  obtain ⟨Z, env, fl, env', st, he, q⟩ := h
  obtain ⟨t, env1, he1, he⟩ := Res.bind_ok (show (ev cf e' false env).bind _ = _ from he)
  obtain ⟨e2, env2, he2, he⟩ := Res.bind_ok he
  cases he
  obtain ⟨hf, _⟩ := Res.of_ok he2
  refine ⟨Z, env, t, env1, st, he1, fun v Z1 H1 g1 r1 => q _ Z1 H1 (g1.s.store (t := t) (i := i) ?_ r1.t.r)⟩
  cases hp : put env1 i t with
  | none => rw [hp] at hf; cases hf
  | some e3 => rw [hp] at hf; cases hf; rfl
/-- targets = e -/
theorem sx_asg {tg e : Expr} {g : G} {e' : E} (hg0 : ∀ i, g ≠ .n i) (hs : swapsWithSole [tg] e pos.line X.env = pure false) (hw : swappedStores [tg] e X.env = pure none) (h1 : (assignEach [tg] X.env).map (·.2) = [assign tg X.env]) (hg : PG X tg (RdG (kx X tabs) g)) (h : EM X tabs cf e e') : SX X tabs cf (.Assign [tg] e pos) (.asg g e') := by
  refine ⟨fun ok => Sw.PS.weak (ps_asg (h.run false ok) hg hs hw h1) fun D σ H h => ?_⟩
  obtain ⟨Z, env, fl, env', st, he, q⟩ := h
  have he2 : ((ev cf e' false env).bind fun t env => match t.d with
      | some d => (Res.of (give g d env) env).bind fun e2 _ => .ok .nx e2
      | none => .bad) = .ok fl env' := by
    cases g with
    | n i => exact absurd rfl (hg0 i)
    | _ => exact he
  obtain ⟨t, env1, he1, he2⟩ := Res.bind_ok he2
  cases hd : t.d with
  | none => rw [hd] at he2; cases he2
  | some d =>
    rw [hd] at he2
    obtain ⟨e2, env2, he3, he2⟩ := Res.bind_ok he2
    cases he2
    obtain ⟨hf, rfl⟩ := Res.of_ok he3
    refine ⟨Z, env, _, _, st, he1, fun v Z1 H1 g1 r1 => ?_⟩
    obtain ⟨Z2, g2, r2, _⟩ := TRep.freeze g1 r1.t hd
    exact ⟨Z2, _, d, _, g2.st, r2, hf, fun σ2 g3 _ => q σ2 Z2 H1 (g2.s.trans g3)⟩
end
end Sw

set_option Elab.async false
set_option linter.all false
set_option maxRecDepth 100000
/-! Loops, stores into lists, returns of a slot. -/
namespace Sw
open PySem PySem.Spec PyProof.Rows L2
section
variable {X : Cx} {tabs : List Addr} {cf : CF} {a b c : Expr} {a' b' c' : E} {pos : Pos}
/-- return x -/
theorem sx_retv {i : Nat} {e : Expr} (h : PE X e (tVar i)) : SX X tabs cf (.Return (some e) pos) (.ret (.v i)) := by
  refine ⟨fun ok => Sw.PS.weak (ps_ret h) fun D σ H h => ?_⟩
  obtain ⟨Z, env, fl, env', st, he, q⟩ := h
  have he2 : (match env[i]? with
      | some (.mu false o) => Res.ok (Fl.rt (.nu o)) (setW env i .un)
      | _ => (rdV false i env).bind fun t env => .ok (.rt t) env) = .ok fl env' := he
  split at he2
  · rename_i o e
    cases he2
    obtain ⟨ad, h1, h2, h3, ow⟩ := st.own e
    have hnl : ¬ Lent env i := fun q => by
      rcases q with ⟨o', q⟩ | ⟨ds, q⟩ <;> rw [e] at q <;> cases q
    have hsub : ∀ j x, OwnAt σ (setW env i .un) j x → j ≠ i ∧ OwnAt σ env j x := fun j x ⟨⟨b, o', q⟩, q2⟩ => by
      by_cases hj : j = i
      · subst hj; rw [setW_same e] at q; cases q
      · rw [setW_ne hj] at q; exact ⟨hj, ⟨b, o', q⟩, q2⟩
    refine ⟨_, h1, q σ Z H ⟨fun _ z => z, fun _ z => .inl z, fun _ _ q _ _ => q, fun _ q => q, fun j x q => .inl ⟨j, (hsub j x q).2⟩, fun j q => ⟨?_, rfl⟩, ?_⟩ _ ⟨ad, rfl, h2, h3, fun j q => ?_, .inr ⟨i, ow⟩⟩⟩
    · have hj : j ≠ i := fun z => hnl (z ▸ q)
      unfold Lent
      rw [setW_ne hj]
      exact q
    · have g : ∀ j w, (setW env i .un)[j]? = some w → w ≠ W.un → env[j]? = some w := fun j w q hw => by
        by_cases hj : j = i
        · subst hj; rw [setW_same e] at q; cases q; exact absurd rfl hw
        · rw [setW_ne hj] at q; exact q
      exact ⟨by unfold setW; rw [List.length_set]; exact st.len, fun j d q => st.im j d (g j _ q (fun z => by cases z)), fun j d q => st.fz j d (g j _ q (fun z => by cases z)), fun j b o q => st.mu j b o (g j _ q (fun z => by cases z)), fun j l x q1 q2 => st.inj j l x (hsub j x q1).2 (hsub l x q2).2, st.tab, st.zh⟩
    · obtain ⟨hj, q⟩ := hsub j ad q
      exact hj (st.inj j i ad q ow)
  · obtain ⟨t, env1, he1, he2⟩ := Res.bind_ok he2
    cases he2
    unfold rdV at he1
    split at he1
    · rename_i d e
      cases he1
      obtain ⟨v, h1, h2⟩ := st.im i d e
      exact ⟨v, h1, q σ Z H (GoS.refl st) v h2⟩
    · rename_i ds e
      cases he1
      obtain ⟨v, h1, _, h2⟩ := st.fz i ds e
      exact ⟨_, h1, q σ Z H (GoS.refl st) _ h2⟩
    · rename_i bo ds e
      obtain ⟨ad, h1, h2, h3, ow⟩ := st.own e
      cases he1
      obtain ⟨g, r⟩ := Go.freezeSlot st e h1 (w := if bo then .fz ds else .im (.lst ds)) (by cases bo <;> simp)
      exact ⟨_, h1, q σ _ H g.s _ r⟩
    · cases he1
    · cases he1
/-- for -/
theorem sx_for {tg it : Expr} {body : List Stmt} {g : G} {it' : E} {s : S} (hc : X.calm = true) (hp : PassesOwn (model X.prog X.w) X.A X.env X.xe) (hs : ∀ x, foldedSetIterable it X.env x = pure x) (hi : IM X tabs cf tg it it') (hg : PG X tg (RdG (kx X tabs) g)) (hb : BX X tabs cf body s) : SX X tabs cf (.For tg it body [] pos) (.for g it' s) := by
  refine ⟨fun ok => ?_⟩
  simp only [okS, Bool.and_eq_true] at ok
  refine Sw.PS.weak (ps_for hp hc (hi.run ok.1) hg (hb.run ok.2) hs) fun D σ H h => ?_
  obtain ⟨Z, env, fl, env', st, he, q⟩ := h
  obtain ⟨xs, env0, he0, he⟩ := Res.bind_ok (show (evi cf it' env).bind _ = _ from he)
  refine ⟨Z, env, xs, env0, st, he0, fun J Z0 H0 g0 hJ => ?_⟩
  -- behind i turns
  refine ⟨fun i m σ1 H1 => m = xs.length - i ∧ i ≤ xs.length ∧ ∃ Z1 env1, GoS (kx X tabs) σ env0 Z0 H0 σ1 env1 Z1 H1 ∧ forLoop g (sx cf s) (xs.drop i) env1 = .ok fl env', ⟨xs.length, by omega, Nat.zero_le _, Z0, env0, GoS.refl g0.st, by rw [List.drop_zero]; exact he⟩, ?_⟩
  rintro i m σ1 H1 ⟨rfl, hi1, Z1, env1, g1, hl⟩
  have hj := hJ Z1 H1 g1.zz (g1.keepK g0.st) i
  by_cases hlt : i < xs.length
  · have hd : xs[i]? = some xs[i] := List.getElem?_eq_getElem hlt
    obtain ⟨hgo, hy⟩ := hj.1 _ hd
    rw [List.drop_eq_getElem_cons hlt] at hl
    unfold forLoop at hl
    split at hl
    · cases hl
    · rename_i env2 hg2
      obtain ⟨f, env3, hb3, hl⟩ := Res.bind_ok hl
      refine .inr ⟨hgo, fun σN HN => (f = .nx ∨ f = .ct) ∧ ∃ ZN eN, GoS (kx X tabs) σ env0 Z0 H0 σN eN ZN HN ∧ eN = env3, ?_, ?_⟩
      · rintro σN HN ⟨hf, ZN, eN, gN, rfl⟩
        refine ⟨xs.length - (i + 1), by omega, rfl, hlt, ZN, _, gN, ?_⟩
        rcases hf with rfl | rfl <;> exact hl
      · intro x H3 hyl
        obtain ⟨hH3, hrep⟩ := hy x H3 hyl
        have g3 : GoS (kx X tabs) σ env0 Z0 H0 σ1 env1 Z1 H3 := by
          rcases hH3 with rfl | ⟨p, ho, hp0, rfl⟩
          · exact g1
          · exact g1.new hp0
        refine ⟨Z1, env1, _, env2, g3.st, hrep, hg2, fun σ2 g2 _ => ⟨Z1, env2, f, env3, g2.st, hb3, fun σ4 Z4 H4 g4 => ?_⟩⟩
        have gg := (g3.trans g2).trans g4
        cases f with
        | nx => exact ⟨.inl rfl, Z4, _, gg, rfl⟩
        | ct => exact ⟨.inr rfl, Z4, _, gg, rfl⟩
        | bk => cases hl; exact q σ4 Z4 H4 (g0.s.trans gg)
        | rt t =>
          cases hl
          exact fun v r => q σ4 Z4 H4 (g0.s.trans gg) v (r.back (g0.s.trans (g3.trans g2)))
  · have e : i = xs.length := by omega
    subst e
    rw [List.drop_length] at hl
    cases hl
    exact .inl ⟨hj.2 (Nat.le_refl _), q σ1 Z1 H1 (g0.s.trans g1)⟩
/-- while -/
theorem sx_while {c : Expr} {c' : E} {body : List Stmt} {s : S} (hp : PassesOwn (model X.prog X.w) X.A X.env X.xe) (hc : TM X tabs cf c c') (hb : BX X tabs cf body s) : SX X tabs cf (.While c body [] pos) (.wh c' s) := by
  refine ⟨fun ok => ?_⟩
  simp only [okS, Bool.and_eq_true] at ok
  refine Sw.PS.weak (ps_while hp (hc.run ok.1) (hb.run ok.2)) fun D σ H h => ?_
  obtain ⟨Z, env, fl, env', st, he, q⟩ := h
  have he : whLoop (fun env => truthR (ev cf c' true env)) (sx cf s) WF env = .ok fl env' := he
  refine ⟨fun m σ1 H1 => ∃ Z1 env1, GoS (kx X tabs) σ env Z H σ1 env1 Z1 H1 ∧ whLoop (fun env => truthR (ev cf c' true env)) (sx cf s) m env1 = .ok fl env', ⟨WF, Z, env, GoS.refl st, he⟩, ?_⟩
  rintro m σ1 H1 ⟨Z1, env1, g1, hl⟩
  cases m with
  | zero => cases hl
  | succ m =>
    obtain ⟨kk, env2, h2, hl⟩ := Res.bind_ok (show (truthR (ev cf c' true env1)).bind _ = _ from hl)
    refine ⟨Z1, env1, kk, env2, g1.st, h2, fun Z2 H2 g2 => ?_⟩
    cases kk with
    | false =>
      cases hl
      exact iteF (q σ1 Z2 H2 (g1.trans g2.s))
    | true =>
      have hl : ((sx cf s env2).bind fun f env2 => match f with
        | .nx => whLoop (fun env => truthR (ev cf c' true env)) (sx cf s) m env2
        | .ct => whLoop (fun env => truthR (ev cf c' true env)) (sx cf s) m env2
        | .bk => .ok .nx env2
        | .rt t => .ok (.rt t) env2) = .ok fl env' := hl
      obtain ⟨f, env3, h3, hl⟩ := Res.bind_ok hl
      refine iteT ⟨fun σN HN => (f = .nx ∨ f = .ct) ∧ ∃ ZN eN, GoS (kx X tabs) σ env Z H σN eN ZN HN ∧ eN = env3, ?_, Z2, env2, f, env3, g2.st, h3, fun σ4 Z4 H4 g4 => ?_⟩
      · rintro σN HN ⟨hf, ZN, eN, gN, rfl⟩
        refine ⟨m, Nat.lt_succ_self m, ZN, _, gN, ?_⟩
        rcases hf with rfl | rfl <;> exact hl
      · have gg := (g1.trans g2.s).trans g4
        cases f with
        | nx => exact ⟨.inl rfl, Z4, _, gg, rfl⟩
        | ct => exact ⟨.inr rfl, Z4, _, gg, rfl⟩
        | bk => cases hl; exact q σ4 Z4 H4 gg
        | rt t =>
          cases hl
          exact fun v r => q σ4 Z4 H4 gg v (r.back (g1.trans g2.s))
theorem sx_break : SX X tabs cf (.Break pos) .brk := by
  refine ⟨fun _ => Sw.PS.weak ps_break fun D σ H h => ?_⟩
  obtain ⟨Z, env, fl, env', st, he, q⟩ := h
  cases he
  exact q σ Z H (GoS.refl st)
theorem sx_cont : SX X tabs cf (.Continue pos) .cont := by
  refine ⟨fun _ => Sw.PS.weak ps_continue fun D σ H h => ?_⟩
  obtain ⟨Z, env, fl, env', st, he, q⟩ := h
  cases he
  exact q σ Z H (GoS.refl st)
/-- x[i] = e, x a slot -/
theorem sx_six {k : Nat} {o i e : Expr} {i' e' : E} {pos' : Pos} (ho : PE X o (tVar k)) (hi : EM X tabs cf i i') (he : EM X tabs cf e e')
    (hp : ∀ te to ti, PE X e te → PE X o to → PE X i ti → PS X (.Assign [.Subscript o i pos'] e pos) (tAsg te (gSub to ti rSetL))) : SX X tabs cf (.Assign [.Subscript o i pos'] e pos) (.six k i' e') := by
  refine ⟨fun ok => ?_⟩
  simp only [okS, Bool.and_eq_true] at ok
  refine Sw.PS.weak (hp _ _ _ (he.run false ok.2) ho (hi.run true ok.1)) fun D σ H h => ?_
  obtain ⟨Z, env, fl, env', st, hev, q⟩ := h
  obtain ⟨t, env1, he1, hev⟩ := Res.bind_ok (show (ev cf e' false env).bind _ = _ from hev)
  refine ⟨Z, env, t, env1, st, he1, fun v Z1 H1 g1 r1 => ?_⟩
  split at hev
  · rename_i hmu
    obtain ⟨j, env2, he2, hev⟩ := Res.bind_ok hev
    obtain ⟨b0, o0, e0⟩ : ∃ b0 o0, env1[k]? = some (.mu b0 o0) := by
      unfold isMu at hmu
      split at hmu
      · rename_i b0 o0 e0; exact ⟨b0, _, e0⟩
      · rename_i b0 o0 e0; exact ⟨b0, _, e0⟩
      · cases hmu
    unfold storeAt at hev
    cases hd : t.d with
    | none => rw [hd] at hev; cases hev
    | some d =>
      rw [hd] at hev
      cases j with
      | nu o => cases hev
      | im dj =>
        cases dj with
        | int n =>
          have hev : (match env2[k]? with
            | some (.mu b (.l xs)) => match ixE xs.length n with
              | some p => Res.ok Fl.nx (setW env2 k (.mu b (.l (xs.set p d))))
              | none => .bad
            | _ => .bad) = .ok fl env' := hev
          split at hev
          · rename_i b xs e2
            cases hp2 : ixE xs.length n with
            | none => rw [hp2] at hev; cases hev
            | some p =>
              rw [hp2] at hev
              cases hev
              obtain ⟨Z2, g2, r2, _⟩ := TRep.freeze g1 r1.t hd
              obtain ⟨a, hσ, _⟩ := g2.st.own e0
              refine ⟨.ref a, hσ, Z2, env1, _, env2, g2.st, he2, fun w Z3 H3 g3 r3 => ?_⟩
              obtain ⟨a2, hσ2, ro1, _⟩ := g3.st.own e2
              rw [hσ] at hσ2
              cases hσ2
              obtain ⟨vs, ha, rv⟩ := (show ∃ vs, H3 a = some (.lst vs) ∧ RepAll (kx X tabs) Z3 H3 xs vs from ro1)
              refine ⟨a, vs, n, p, rfl, r3.v.int rfl, ha, by rw [← RepAll.len _ rv]; exact hp2, ?_⟩
              have r2' := Rep.keep (g3.keepK g2.st) g3.zz d r2
              have g4 := Go.setSlot (o' := .l (xs.set p d)) (ho := .lst (vs.set p v)) g3.st e2 hσ ⟨_, upd_same, RepAll.keep (Go.setKeep g3.st e2 hσ) (fun _ z => z) _ (RepAll.set _ _ rv r2')⟩
              exact q σ Z3 _ ((g2.s.trans g3.s).trans g4.s)
          · cases hev
        | _ => cases hev
  · cases hev
end
end Sw

set_option Elab.async false
set_option linter.all false
set_option maxRecDepth 100000
/-! Defs and their calls. -/
namespace Sw
open PySem PySem.Spec PyProof.Rows L2
def GdOk (gb : Bool) (A : Around) : Prop := gb = true → A.guards = some []
/-- a def keeps its promise, where no repr is under way -/
structure FnG (gb : Bool) (P : Program) (w : World) (K : PySem.W.Frag) (mg : Str → Option Value) (base : Heap) (k : Nat) (f : Addr) (fd : FuncData) (ps : List Str) (sp : Sp) : Prop where
  len : ∀ vs H Q E, sp vs H Q E → vs.length = ps.length
  run : ∀ (A : Around) (outer : List Env) (s : Shared) (H : Hp) (args : Args) (us : List Value) (vs : List V) (Q : VK) (E : XK), Room k A → GdOk gb A → Env0 P w K mg base A outer s H → BindsTo s fd args (ps.zip us) → Vals vs us → sp vs H Q E →
    codeAny (model P w) A (.call (.ref f) args) (CR CX0 outer P w H s Q E) s
theorem fnG_of {gb : Bool} {P : Program} {w : World} {K : PySem.W.Frag} {mg : Str → Option Value} {base : Heap} {k : Nat} {f : Addr} {name qual : Str} {params : Arguments} {body : List Stmt} {scope : Scope} {dV kV doc pm cdv ct oc : Value} {an od : Option Addr}
    {osl : Array (Option Value)} {N ps : List Str} {sp : Sp} (lk : K.lookup f = some ⟨oc, od, .func (PySem.W.fnOf name qual params body scope dV kV doc pm an cdv ct), osl⟩) (hcd : PySem.W.codeIn K cdv qual = true) (S : FnScope N ps scope)
    (len : ∀ vs H Q E, sp vs H Q E → vs.length = ps.length)
    (hbody : ∀ (A : Around) (outer : List Env) (s : Shared) (H : Hp) (vs : List V) (Q : VK) (E : XK), Room k (A.deeper (envOfC qual scope s.heap.objs.size f cdv)) → GdOk gb A → sp vs H Q E →
      ∃ t, PSs (cxOf CX0 P w K mg base N qual scope f cdv A outer s H E) body t ∧ t { nx := fun _ H' => Q .non H', rt := Q } (L2.start N vs) H) :
    FnG gb P w K mg base (k + 1) f (PySem.W.fnOf name qual params body scope dV kV doc pm an cdv ct) ps sp := by
  refine ⟨len, fun A outer s H args us vs Q E hr hg e0 hb r hsp => ?_⟩
  have hl := len _ _ _ _ hsp
  have KX : K.In s.heap := e0.mod.kin.keeps fun b o e => (e0.bs b o e).1
  have lim : s.heap.NoLimit := e0.mod.nolimit.keeps fun b o e => (e0.bs b o e).1
  have hkind : ∀ y ∈ ps.zip us, scope.names.lookup y.1 = some .local ∨ (scope.names.lookup y.1 = some .cell ∧ ((cellsFrom (s.heap.objs.size + 1) scope.names []).lookup y.1).isSome = true) := fun ⟨n, v⟩ hy => by
    rcases S.par n (List.of_mem_zip hy).1 with q | q
    · exact .inl q
    · exact .inr ⟨q, PySem.W.cellsFrom_some _ _ _ (.inl q)⟩
  refine codeAny_call_function hr.depth (KX _ _ lk) rfl S.co S.gen rfl (PySem.W.codeRec_of KX hcd) (hb _ _ _ _ ?_)
  refine wpAny_newFunctionEnv_cells S.kind hkind fun env he s1 x => ?_
  subst he
  refine ⟨lim.keeps x.toInCall.keep, codeAny_func ?_⟩
  obtain ⟨t, ht, hq⟩ := hbody A outer s H vs Q E (hr.deeper _) hg hsp
  have I : L2.Inv (cxOf CX0 P w K mg base N qual scope f cdv A outer s H E) [] (L2.start N vs) H s1 := inv_start S hr.hd e0 hl r x
  refine wpAny_mono (ht.run [] s1 (L2.start N vs) H _ I hq) (fun fl s' hs => ?_) fun e s' hs => hs
  have fin : ∀ {σ' : L2.St} {H' : Hp} {v : V} {u : Value}, L2.Inv (cxOf CX0 P w K mg base N qual scope f cdv A outer s H E) [] σ' H' s' → RelV v u → Q v H' → CE outer P w H s Q u s' :=
    fun {σ' H' v u} J rv q => ⟨v, H', J.os, J.bare, J.base, J.hok, rv, q⟩
  cases fl with
  | ret u =>
    obtain ⟨v, σ', H', J, rv, q⟩ := hs
    exact fin J rv q
  | next =>
    obtain ⟨σ', H', J, q⟩ := hs
    exact fin (v := V.non) (u := Value.none) J rfl q
  | brk =>
    obtain ⟨_, _, _, q⟩ := hs
    exact False.elim q
  | cont =>
    obtain ⟨_, _, _, q⟩ := hs
    exact False.elim q
section
variable {X : Cx} {k : Nat} {f : Addr} {fd : FuncData} {ps : List Str} {sp : Sp} {x : Str} {p pos : Pos} {e : Expr} {es : List Expr} {t : TA}
theorem run_fnG {gb : Bool} {pins : List (Addr × Obj)} {σ : L2.St} {H : Hp} {s : Shared} {Q : VK} {us : List Value} {vs : List V} (F : FnG gb X.prog X.w X.K X.mg X.base k f fd ps sp) (hr : Room k X.A) (hg : GdOk gb X.A) (hb : Binds X.K fd ps [])
    (I : L2.Inv X pins σ H s) (r : Vals vs us) (h : sp vs H Q E0) : wpAny (model X.prog X.w) X.A (call (.ref f) us) (EP X pins σ Q) X.xe s := by
  have hl : (us ++ []).length = ps.length := by rw [List.append_nil, ← r.length]; exact F.len _ _ _ _ h
  have hb2 := hb s us I.kIn hl
  rw [List.append_nil] at hb2
  refine wpAny_call (codeAny_mono (F.run X.A X.stack s H ⟨us, []⟩ us vs Q E0 hr hg I.env0 hb2 r h) fun r s' hq => ?_)
  cases r with
  | error e => exact False.elim hq
  | ok fl =>
    cases fl with
    | ret u => exact I.after hq
    | next => exact False.elim hq
    | brk => exact False.elim hq
    | cont => exact False.elim hq
theorem pe_callG {gb : Bool} (F : FnG gb X.prog X.w X.K X.mg X.base k f fd ps sp) (hr : Room k X.A) (hgd : GdOk gb X.A) (hg : Gl X x) (hm : X.mg x = some (.ref f)) (hk : PySem.W.keepIn X.K (.ref f) = true) (hb : Binds X.K fd ps [])
    (ha : PA X (e :: es) t) (hdb : (x == ("__debug__" : Str)) = false := by decide) (he : starEach (e :: es) X.env = (false, eval e X.env) :: starEach es X.env := by rfl) (hpl : (backTo pos (starEach es X.env)).any (·.1) = false := by rfl) :
    PE X (.Call (.Name x p) (e :: es) [] pos) (fun σ H Q => t σ H fun vs H1 => sp vs H1 Q E0) := by
  refine ⟨fun pins s σ H Q I h => ?_⟩
  refine wpAny_Call_Name_kw (ld_glob I hg hm ?_ hdb)
  refine PySem.W.callWith_K (h₀ := X.base) I.ok.mod.kin hk (thn (ha.run pos pins s σ H _ I h) fun us s1 ⟨vs, H1, I1, r, q⟩ => ⟨I1.kIn, ?_⟩) he hpl
  exact run_fnG F hr hgd hb I1 r q
end

theorem FnG.ok {P : Program} {w : World} {K : PySem.W.Frag} {mg : Str → Option Value} {base : Heap} {k : Nat} {f : Addr} {fd : FuncData} {ps : List Str} {sp : Sp} (F : FnG false P w K mg base k f fd ps sp) : FnOk P w K mg base CX0 k f fd ps sp :=
  ⟨F.len, fun A outer s H args us vs Q E hr e0 hb r hsp => F.run A outer s H args us vs Q E hr (fun z => by cases z) e0 hb r hsp⟩

/-! ### the promise -/
/-- behind a call: ws what was given at vs, ws' what the slots that were lent hold now -/
structure CallGo (k : Kx) (vs : List V) (ws : List W) (Z : Addr → Prop) (H : Hp) (ws' : List W) (Z' : Addr → Prop) (H' : Hp) : Prop where
  zz : ∀ a, Z a → Z' a
  zn : ∀ a, Z' a → Z a ∨ H a = none ∨ ∃ i, OwnAt (vs.map some) ws i a
  keep : ∀ a o, H a = some o → a ∉ k.tabs → (∀ i, ¬ OwnAt (vs.map some) ws i a) → H' a = some o
  there : ∀ a, H' a = none → H a = none
  tab : ∀ P ∈ k.tabs, GxR.TabG H' P
  zh : ∀ a, Z' a → H' a ≠ none
  back : ∀ (i : Nat) (o : O), ws[i]? = some (.mu true o) → ∃ a, vs[i]? = some (.ref a) ∧ ((∃ o', ws'[i]? = some (.mu true o') ∧ ORep k Z' H' a o' ∧ ¬ Z' a) ∨ (∃ ds, ws'[i]? = some (.fz ds) ∧ Z' a ∧ Rep k Z' H' (.lst ds) (.ref a)))
/-- what a call gives -/
def CRep (k : Kx) (vs : List V) (ws : List W) (H : Hp) (Z' : Addr → Prop) (H' : Hp) : T → V → Prop
  | .im d, v => Rep k Z' H' d v
  | .nu o, v => ∃ a, v = .ref a ∧ ORep k Z' H' a o ∧ ¬ Z' a ∧ (H a = none ∨ ∃ j, OwnAt (vs.map some) ws j a ∧ ¬ Lent ws j)
def spF (k : Kx) (cf : CF) (f : Nat) : Sp := fun vs H Q _ => ∃ Z ws t ws', cf f ws = some (some (t, ws')) ∧ StOk k Z H (vs.map some) ws ∧ (∀ (i : Nat) ds, ws[i]? ≠ some (W.fz ds)) ∧
  ∀ v Z' H', CallGo k vs ws Z H ws' Z' H' → CRep k vs ws H Z' H' t v → Q v H'
/-- a def of the program, by its body -/
theorem spF_body {k : Kx} {cf : CF} {P : Prog} {n f : Nat} {fn : Fn} {N : List Str} (hcf : cf = callD P (n + 1)) (hP : P[f]? = some fn) (hN : N.length = fn.slots) (hA : fn.args ≤ fn.slots)
    {vs : List V} {H : Hp} {Q : VK} {E : XK} (h : spF k cf f vs H Q E) : RdX k (callD P n) fn.body { nx := fun _ H' => Q .non H', rt := Q } (L2.start N vs) H := by
  subst hcf
  obtain ⟨Z, ws, t, ws', hc, st, hnf, q⟩ := h
  have hc : run1 (callD P n) fn ws = some (some (t, ws')) := by
    have : callD P (n + 1) f ws = match P[f]? with | some fn => run1 (callD P n) fn ws | none => none := rfl
    rw [this, hP] at hc
    exact hc
  unfold run1 at hc
  split at hc
  · rename_i hlen
    have hvl : vs.length = ws.length := by have := st.len; rw [List.length_map] at this; exact this.symm
    -- slots at the entry
    have eL : ∀ i, i < ws.length → (startE fn ws)[i]? = ws[i]? := fun i hi => by unfold startE; rw [List.getElem?_append_left hi]
    have eR : ∀ i w, ws.length ≤ i → (startE fn ws)[i]? = some w → w = .un := fun i w hi e => by
      unfold startE at e
      rw [List.getElem?_append_right hi] at e
      exact (List.eq_of_mem_replicate (List.mem_of_getElem? e))
    have sL : ∀ i, i < ws.length → (L2.start N vs)[i]? = (vs.map some)[i]? := fun i hi => by
      unfold L2.start
      rw [List.getElem?_append_left (by rw [List.length_map, hvl]; exact hi)]
    have own : ∀ i a, OwnAt (L2.start N vs) (startE fn ws) i a ↔ OwnAt (vs.map some) ws i a := fun i a => by
      by_cases hi : i < ws.length
      · unfold OwnAt
        rw [eL i hi, sL i hi]
      · constructor
        · rintro ⟨⟨b, o, e⟩, _⟩
          exact absurd (eR i _ (by omega) e) (fun z => by cases z)
        · rintro ⟨⟨b, o, e⟩, _⟩
          exact absurd (List.getElem?_eq_some_iff.mp e).1 hi
    have st0 : StOk k Z H (L2.start N vs) (startE fn ws) := by
      refine ⟨?_, fun i d e => ?_, fun i d e => ?_, fun i b o e => ?_, fun i j a q1 q2 => st.inj i j a ((own i a).mp q1) ((own j a).mp q2), st.tab, st.zh⟩
      · unfold startE L2.start
        rw [List.length_append, List.length_append, List.length_map, List.length_replicate, List.length_replicate, hvl, hN, hlen]
      · by_cases hi : i < ws.length
        · rw [eL i hi] at e; rw [sL i hi]; exact st.im i d e
        · exact absurd (eR i _ (by omega) e) (fun z => by cases z)
      · by_cases hi : i < ws.length
        · rw [eL i hi] at e; rw [sL i hi]; exact st.fz i d e
        · exact absurd (eR i _ (by omega) e) (fun z => by cases z)
      · by_cases hi : i < ws.length
        · rw [eL i hi] at e; rw [sL i hi]; exact st.mu i b o e
        · exact absurd (eR i _ (by omega) e) (fun z => by cases z)
    -- behind the body
    have go : ∀ (env' σ' Z' H'), GoS k (L2.start N vs) (startE fn ws) Z H σ' env' Z' H' → env'.take fn.args = ws' → CallGo k vs ws Z H ws' Z' H' := fun env' σ' Z' H' g hw => by
      refine ⟨g.zz, fun a z => ?_, fun a o h1 h2 h3 => g.keep a o h1 h2 fun i z => h3 i ((own i a).mp z), g.there, g.st.tab, g.st.zh, fun i o e => ?_⟩
      · rcases g.zn a z with q | q | ⟨i, q⟩
        · exact .inl q
        · exact .inr (.inl q)
        · exact .inr (.inr ⟨i, (own i a).mp q⟩)
      · have hi : i < ws.length := (List.getElem?_eq_some_iff.mp e).1
        have e0 : (startE fn ws)[i]? = some (.mu true o) := (eL i hi).trans e
        obtain ⟨a, ha, _⟩ := st.mu i true o e
        obtain ⟨hl, hs⟩ := g.lent i (.inl ⟨o, e0⟩)
        have hva : vs[i]? = some (.ref a) := by
          rw [List.getElem?_map] at ha
          cases hv : vs[i]? with
          | none => rw [hv] at ha; cases ha
          | some v => rw [hv] at ha; cases ha; rfl
        have hs' : σ'[i]? = some (some (.ref a)) := by rw [hs, sL i hi]; exact ha
        have hw' : ∀ w, env'[i]? = some w → ws'[i]? = some w := fun w q => by
          rw [← hw, List.getElem?_take_of_lt (by rw [← hlen]; exact hi)]; exact q
        refine ⟨a, hva, ?_⟩
        rcases hl with ⟨o', q⟩ | ⟨ds, q⟩
        · obtain ⟨a2, h1, h2, h3⟩ := g.st.mu i true o' q
          rw [hs'] at h1
          cases h1
          exact .inl ⟨o', hw' _ q, h2, h3⟩
        · obtain ⟨a2, h1, h2, h3⟩ := g.st.fz i ds q
          rw [hs'] at h1
          cases h1
          exact .inr ⟨ds, hw' _ q, h2, h3⟩
    have crep : ∀ (env' σ' Z' H') (t : T) (v : V), GoS k (L2.start N vs) (startE fn ws) Z H σ' env' Z' H' → RRep k (L2.start N vs) (startE fn ws) H Z' H' σ' env' t v → CRep k vs ws H Z' H' t v := fun env' σ' Z' H' t v g r => by
      cases t with
      | im d => exact r
      | nu o =>
        obtain ⟨a, e, r1, r2, r3, r4⟩ := r
        refine ⟨a, e, r1, r2, ?_⟩
        rcases r4 with r4 | ⟨j, r4⟩
        · exact .inl r4
        · refine .inr ⟨j, (own j a).mp r4, fun hl => ?_⟩
          have hj : j < ws.length := by
            obtain ⟨⟨b, o, e⟩, _⟩ := (own j a).mp r4
            exact (List.getElem?_eq_some_iff.mp e).1
          have hl0 : Lent (startE fn ws) j := by
            unfold Lent
            rw [eL j hj]
            exact hl
          obtain ⟨hl1, hs⟩ := g.lent j hl0
          have hsj : σ'[j]? = some (some (.ref a)) := by rw [hs]; exact r4.2
          rcases hl1 with ⟨o', q⟩ | ⟨ds, q⟩
          · exact r3 j ⟨⟨true, o', q⟩, hsj⟩
          · obtain ⟨a2, h1, h2, _⟩ := g.st.fz j ds q
            rw [hsj] at h1
            cases h1
            exact r2 h2
    split at hc
    · rename_i t1 env' he
      cases hc
      exact ⟨Z, _, _, env', st0, he, fun σ' Z' H' g v r => q v Z' H' (go env' σ' Z' H' g rfl) (crep env' σ' Z' H' _ v g r)⟩
    · rename_i env' he
      cases hc
      refine ⟨Z, _, _, env', st0, he, fun σ' Z' H' g => q .non Z' H' (go env' σ' Z' H' g rfl) rfl⟩
    · cases hc
  · cases hc
end Sw

set_option Elab.async false
set_option linter.all false
set_option maxRecDepth 100000
/-! Calls of defs: the caller's side. -/
namespace Sw
open PySem PySem.Spec PyProof.Rows L2
/-- one argument: lent by a slot, data, a new object -/
def AgRep (k : Kx) (H0 : Hp) (Z : Addr → Prop) (H : Hp) (σ : L2.St) (env : En) (ag : Ag) (v : V) : Prop :=
  (∃ i b o, ag = ⟨.mu true o, some i⟩ ∧ env[i]? = some (.mu b o) ∧ σ[i]? = some (some v)) ∨
  (∃ d, ag = ⟨.im d, none⟩ ∧ Rep k Z H d v) ∨
  (∃ o a, ag = ⟨.mu false o, none⟩ ∧ v = .ref a ∧ ORep k Z H a o ∧ ¬ Z a ∧ H0 a = none ∧ ∀ i, ¬ OwnAt σ env i a)
/-- arguments; new objects stand apart -/
def AgAll (k : Kx) (H0 : Hp) (Z : Addr → Prop) (H : Hp) (σ : L2.St) (env : En) : List Ag → List V → Prop
  | [], vs => vs = []
  | ag :: as, vs => ∃ v r, vs = v :: r ∧ AgRep k H0 Z H σ env ag v ∧ AgAll k H0 Z H σ env as r ∧
      ∀ o a, ag = ⟨.mu false o, none⟩ → v = .ref a → ∀ (j : Nat) o', as[j]? = some ⟨.mu false o', none⟩ → r[j]? ≠ some (.ref a)
def RdA (k : Kx) (cf : CF) (e : E) : TA := fun σ H Q => ∃ Z env as env', StOk k Z H σ env ∧ eva cf e env = .ok as env' ∧
  ∀ vs Z' H', Go k (tou e .args) σ Z H env Z' H' env' → AgAll k H Z' H' σ env' as vs → Q vs H'
section
variable {k : Kx} {σ : L2.St} {Z Z1 : Addr → Prop} {H0 H H1 : Hp} {env env1 : En}
theorem AgAll.back {H00 : Hp} (h : ∀ a, H0 a = none → H00 a = none) : ∀ {as : List Ag} {vs : List V}, AgAll k H0 Z H σ env as vs → AgAll k H00 Z H σ env as vs
  | [], _, q => q
  | ag :: as, vs, ⟨v, r, e, q1, q2, q3⟩ => by
    refine ⟨v, r, e, ?_, AgAll.back h q2, q3⟩
    rcases q1 with q | q | ⟨o, a, e1, e2, r1, r2, r3, r4⟩
    · exact .inl q
    · exact .inr (.inl q)
    · exact .inr (.inr ⟨o, a, e1, e2, r1, r2, h a r3, r4⟩)
theorem AgAll.len : ∀ {as : List Ag} {vs : List V}, AgAll k H0 Z H σ env as vs → as.length = vs.length
  | [], _, q => by cases q; rfl
  | ag :: as, vs, ⟨v, r, e, q1, q2, q3⟩ => by subst e; simp [AgAll.len q2]
theorem AgAll.get : ∀ {as : List Ag} {vs : List V} {j : Nat} {ag : Ag}, AgAll k H0 Z H σ env as vs → as[j]? = some ag → ∃ v, vs[j]? = some v ∧ AgRep k H0 Z H σ env ag v
  | [], _, _, _, _, e => by simp at e
  | a0 :: as, vs, 0, ag, ⟨v, r, e, q1, q2, q3⟩, e1 => by
    subst e
    simp at e1
    subst e1
    exact ⟨v, rfl, q1⟩
  | a0 :: as, vs, j + 1, ag, ⟨v, r, e, q1, q2, q3⟩, e1 => by
    subst e
    obtain ⟨u, h1, h2⟩ := AgAll.get (j := j) (ag := ag) q2 (by simpa using e1)
    exact ⟨u, by simpa using h1, h2⟩
/-- two new objects are one only at one place -/
theorem AgAll.apart : ∀ {as : List Ag} {vs : List V} {j l : Nat} {o o' : O} {a : Addr}, AgAll k H0 Z H σ env as vs → as[j]? = some ⟨.mu false o, none⟩ → as[l]? = some ⟨.mu false o', none⟩ → vs[j]? = some (.ref a) → vs[l]? = some (.ref a) → j = l
  | [], _, _, _, _, _, _, _, e, _, _, _ => by simp at e
  | a0 :: as, vs, 0, 0, o, o', a, _, _, _, _, _ => rfl
  | a0 :: as, vs, 0, l + 1, o, o', a, ⟨v, r, e, q1, q2, q3⟩, e1, e2, e3, e4 => by
    subst e
    simp at e1 e3
    exact absurd (by simpa using e4) (q3 o a e1 e3 l o' (by simpa using e2))
  | a0 :: as, vs, j + 1, 0, o, o', a, ⟨v, r, e, q1, q2, q3⟩, e1, e2, e3, e4 => by
    subst e
    simp at e2 e4
    exact absurd (by simpa using e3) (q3 o' a e2 e4 j o (by simpa using e1))
  | a0 :: as, vs, j + 1, l + 1, o, o', a, ⟨v, r, e, q1, q2, q3⟩, e1, e2, e3, e4 => by
    subst e
    rw [AgAll.apart (j := j) (l := l) q2 (by simpa using e1) (by simpa using e2) (by simpa using e3) (by simpa using e4)]
end
section
variable {X : Cx} {tabs : List Addr} {cf : CF} {a b c : Expr} {a' b' c' : E} {pos : Pos}
structure AM (X : Cx) (tabs : List Addr) (cf : CF) (es : List Expr) (e' : E) : Prop where
  run : okE e' .args = true → PA X es (RdA (kx X tabs) cf e')
theorem eva_nil {env : En} : eva cf .nil env = .ok [] env := rfl
theorem eva_slot {i : Nat} {b : E} {env : En} : eva cf (.cons (.v i) b) env = agSlot i env fun env => eva cf b env := by
  show asAg ((agSlot i env fun env => eva cf b env).bind fun as env => .ok (.ag as) env) = _
  cases agSlot i env fun env => eva cf b env <;> rfl
theorem eva_cons {a b : E} {env : En} (h : slotOf a = none) : eva cf (.cons a b) env = (ev cf a false env).bind fun x env => (eva cf b env).bind fun as env => .ok (⟨ofT x, none⟩ :: as) env := by
  unfold eva
  rw [ev1]
  simp only [h]
  show asAg ((ev cf a false env).bind fun x env => (eva cf b env).bind fun as env => .ok (.ag (⟨ofT x, none⟩ :: as)) env) = _
  cases ev cf a false env with
  | ok x e =>
    show asAg ((eva cf b e).bind fun as env => .ok (.ag (⟨ofT x, none⟩ :: as)) env) = (eva cf b e).bind _
    cases eva cf b e <;> rfl
  | _ => rfl
theorem am_nil : AM X tabs cf [] .nil := by
  refine ⟨fun ok => Sw.PA.weak pa_nil fun σ H Q h => ?_⟩
  obtain ⟨Z, env, ds, env', st, he, q⟩ := h
  cases he
  exact q [] Z H (.refl st) rfl
theorem am_cons {es : List Expr} (hn : slotOf a' = none) (hs : starEach (a :: es) X.env = (false, eval a X.env) :: starEach es X.env) (ha : EM X tabs cf a a') (hb : AM X tabs cf es b') : AM X tabs cf (a :: es) (.cons a' b') := by
  refine ⟨fun ok => ?_⟩
  simp only [okE, Bool.and_eq_true] at ok
  refine Sw.PA.weak (pa_cons (ha.run false ok.1) (hb.run ok.2) hs) fun σ H Q h => ?_
  obtain ⟨Z, env, as, env', st, he, q⟩ := h
  rw [eva_cons hn] at he
  obtain ⟨x, env1, h1, he⟩ := Res.bind_ok he
  obtain ⟨as', env2, h2, he⟩ := Res.bind_ok he
  cases he
  have ht : tou (.cons a' b') .args = tou a' (.val false) ++ tou b' .args := by
    simp only [tou, hn]
  refine ⟨Z, env, x, env1, st, h1, fun v Z1 H1 g1 r1 => ⟨Z1, env1, as', _, g1.st, h2, fun vs Z2 H2 g2 r2 => q (v :: vs) Z2 H2 (by rw [ht]; exact g1.trans g2) ⟨v, vs, rfl, ?_, AgAll.back g1.there r2, fun o a e1 e2 j o' e3 e4 => ?_⟩⟩⟩
  · have r1' := TRep.go g1.st g2 r1.t
    cases x with
    | im d => exact .inr (.inl ⟨d, rfl, r1'⟩)
    | nu o =>
      obtain ⟨a, e, w1, w2, w3, w4⟩ := r1'
      exact .inr (.inr ⟨o, a, rfl, e, w1, w2, w3, w4⟩)
  · -- the first one stood already
    subst e2
    have r1t := r1.t
    cases x with
    | im d => cases e1
    | nu o0 =>
      obtain ⟨a1, ea, w1, _⟩ := r1t
      cases ea
      have hn1 : H1 a ≠ none := by
        cases o0 with
        | l ds => obtain ⟨vs, hh, _⟩ := w1; rw [hh]; simp
        | s xs => obtain ⟨_, hh⟩ := w1; rw [hh]; simp
      obtain ⟨u, h3, h4⟩ := r2.get e3
      rw [e4] at h3
      cases h3
      rcases h4 with ⟨i, b, o, e, _⟩ | ⟨d, e, _⟩ | ⟨o, a2, e, ea, _, _, hz, _⟩
      · cases e
      · cases e
      · cases ea
        exact hn1 hz
/-- a slot as an argument -/
theorem am_slot {es : List Expr} {i : Nat} (hs : starEach (a :: es) X.env = (false, eval a X.env) :: starEach es X.env) (ha : PE X a (tVar i)) (hb : AM X tabs cf es b') : AM X tabs cf (a :: es) (.cons (.v i) b') := by
  refine ⟨fun ok => ?_⟩
  simp only [okE, Bool.and_eq_true] at ok
  refine Sw.PA.weak (pa_cons ha (hb.run ok.2) hs) fun σ H Q h => ?_
  obtain ⟨Z, env, as, env', st, he, q⟩ := h
  rw [eva_slot] at he
  have ht : tou (.cons (.v i) b') .args = [i] ++ tou b' .args := rfl
  unfold agSlot at he
  split at he
  · rename_i b0 o0 e0
    obtain ⟨as', env1, h2, he⟩ := Res.bind_ok he
    split at he
    · rename_i b1 o1 e1
      cases he
      obtain ⟨ad, hσ, _⟩ := st.own e0
      refine ⟨_, hσ, Z, env, as', _, st, h2, fun vs Z2 H2 g2 r2 => q _ Z2 H2 (by rw [ht]; exact g2.mono fun j hj => List.mem_append_right _ hj) ⟨_, vs, rfl, .inl ⟨i, b1, o1, rfl, e1, hσ⟩, r2, fun o a q1 _ => by cases q1⟩⟩
    · cases he
  · rename_i d e0
    obtain ⟨as', env1, h2, he⟩ := Res.bind_ok he
    cases he
    obtain ⟨v, hσ, r⟩ := st.im i d e0
    refine ⟨v, hσ, Z, env, as', _, st, h2, fun vs Z2 H2 g2 r2 => q _ Z2 H2 (by rw [ht]; exact g2.mono fun j hj => List.mem_append_right _ hj) ⟨v, vs, rfl, .inr (.inl ⟨d, rfl, Rep.keep (g2.keepK st) g2.zz d r⟩), r2, fun o a q1 _ => by cases q1⟩⟩
  · rename_i ds e0
    obtain ⟨as', env1, h2, he⟩ := Res.bind_ok he
    cases he
    obtain ⟨v, hσ, _, r⟩ := st.fz i ds e0
    refine ⟨_, hσ, Z, env, as', _, st, h2, fun vs Z2 H2 g2 r2 => q _ Z2 H2 (by rw [ht]; exact g2.mono fun j hj => List.mem_append_right _ hj) ⟨_, vs, rfl, .inr (.inl ⟨.lst ds, rfl, Rep.keep (g2.keepK st) g2.zz _ r⟩), r2, fun o a q1 _ => by cases q1⟩⟩
  · cases he
end
end Sw

set_option Elab.async false
set_option linter.all false
set_option maxRecDepth 100000
/-! The call itself. -/
namespace Sw
open PySem PySem.Spec PyProof.Rows L2
theorem agsOk_out : ∀ {as : List Ag} {seen : List Nat}, agsOk as seen = true → ∀ ag ∈ as, ∀ i, ag.from? = some i → i ∉ seen
  | [], _, _, ag, h, _, _ => by simp at h
  | a0 :: as, seen, h, ag, hm, i, e => by
    unfold agsOk at h
    split at h
    · rename_i e0
      rcases List.mem_cons.mp hm with rfl | hm
      · rw [e0] at e; cases e
      · exact agsOk_out h ag hm i e
    · rename_i i0 e0
      simp only [Bool.and_eq_true, Bool.not_eq_true'] at h
      rcases List.mem_cons.mp hm with rfl | hm
      · rw [e0] at e
        have e := Option.some.inj e
        subst e
        intro hc
        have : seen.contains i0 = true := by simpa using hc
        rw [h.1] at this
        cases this
      · exact fun hc => agsOk_out h.2 ag hm i e (List.mem_cons_of_mem _ hc)
theorem agsOk_uniq : ∀ {as : List Ag} {seen : List Nat}, agsOk as seen = true → ∀ (j l : Nat) (a b : Ag) (i : Nat), as[j]? = some a → as[l]? = some b → a.from? = some i → b.from? = some i → j = l
  | [], _, _, j, _, _, _, _, h, _, _, _ => by simp at h
  | a0 :: as, seen, h, j, l, a, b, i, e1, e2, e3, e4 => by
    unfold agsOk at h
    split at h
    · rename_i e0
      cases j with
      | zero => simp at e1; subst e1; rw [e0] at e3; cases e3
      | succ j =>
        cases l with
        | zero => simp at e2; subst e2; rw [e0] at e4; cases e4
        | succ l => rw [agsOk_uniq h j l a b i (by simpa using e1) (by simpa using e2) e3 e4]
    · rename_i i0 e0
      simp only [Bool.and_eq_true] at h
      cases j with
      | zero =>
        cases l with
        | zero => rfl
        | succ l =>
          simp at e1 e2
          subst e1
          rw [e0] at e3
          have e3 := Option.some.inj e3
          subst e3
          exact absurd List.mem_cons_self (agsOk_out h.2 b (List.mem_of_getElem? e2) i0 e4)
      | succ j =>
        cases l with
        | zero =>
          simp at e1 e2
          subst e2
          rw [e0] at e4
          have e4 := Option.some.inj e4
          subst e4
          exact absurd List.mem_cons_self (agsOk_out h.2 a (List.mem_of_getElem? e1) i0 e3)
        | succ l => rw [agsOk_uniq h.2 j l a b i (by simpa using e1) (by simpa using e2) e3 e4]
/-- what comes back into slot i -/
def backW (b : Bool) : W → Option W
  | .mu _ o => some (.mu b o)
  | .fz xs => some (if b then .fz xs else .im (.lst xs))
  | _ => none
theorem giveBack_spec : ∀ {as : List Ag} {ws : List W} {env env' : En} {seen : List Nat}, agsOk as seen = true → giveBack as ws env = some env' →
    (∀ i, (∀ ag ∈ as, ag.from? ≠ some i) → env'[i]? = env[i]?) ∧ env'.length = env.length ∧
    ∀ (j : Nat) (ag : Ag) (i : Nat), as[j]? = some ag → ag.from? = some i → ∃ b o w w', env[i]? = some (.mu b o) ∧ ws[j]? = some w ∧ backW b w = some w' ∧ env'[i]? = some w'
  | [], ws, env, env', seen, _, h => by
    cases h
    exact ⟨fun _ _ => rfl, rfl, fun j ag i e _ => by simp at e⟩
  | a0 :: as, [], env, env', seen, _, h => by cases h
  | a0 :: as, w0 :: ws, env, env', seen, hok, h => by
    unfold agsOk at hok
    unfold giveBack at h
    split at hok
    · rename_i e0
      rw [e0] at h
      obtain ⟨h1, h2, h3⟩ := giveBack_spec hok h
      refine ⟨fun i hi => h1 i fun ag hm => hi ag (List.mem_cons_of_mem _ hm), h2, fun j ag i e1 e2 => ?_⟩
      cases j with
      | zero => simp at e1; subst e1; rw [e0] at e2; cases e2
      | succ j => exact h3 j ag i (by simpa using e1) e2
    · rename_i i0 e0
      simp only [Bool.and_eq_true] at hok
      rw [e0] at h
      have key : ∃ b o w', env[i0]? = some (.mu b o) ∧ backW b w0 = some w' ∧ giveBack as ws (setW env i0 w') = some env' := by
        revert h
        show (match w0, env[i0]? with
          | .mu _ o, some (.mu b _) => giveBack as ws (setW env i0 (.mu b o))
          | .fz xs, some (.mu b _) => giveBack as ws (setW env i0 (if b then .fz xs else .im (.lst xs)))
          | _, _ => none) = some env' → _
        split
        · rename_i o' b o e; exact fun h => ⟨b, _, _, e, rfl, h⟩
        · rename_i xs b o e; exact fun h => ⟨b, _, _, e, rfl, h⟩
        · intro h; cases h
      obtain ⟨b, o, w', e1, e2, h⟩ := key
      obtain ⟨h1, h2, h3⟩ := giveBack_spec hok.2 h
      have out : ∀ ag ∈ as, ag.from? ≠ some i0 := fun ag hm q => agsOk_out hok.2 ag hm i0 q List.mem_cons_self
      refine ⟨fun i hi => ?_, by rw [h2]; unfold setW; rw [List.length_set], fun j ag i q1 q2 => ?_⟩
      · have hne : i ≠ i0 := fun z => hi a0 List.mem_cons_self (by rw [z]; exact e0)
        rw [h1 i fun ag hm => hi ag (List.mem_cons_of_mem _ hm), setW_ne hne]
      · cases j with
        | zero =>
          simp at q1
          subst q1
          rw [e0] at q2
          cases q2
          exact ⟨b, o, w0, w', e1, rfl, e2, by rw [h1 i0 out, setW_same e1]⟩
        | succ j =>
          obtain ⟨b2, o2, w2, w2', g1, g2, g3, g4⟩ := h3 j ag i (by simpa using q1) q2
          have hne : i ≠ i0 := fun z => out ag (List.mem_of_getElem? (by simpa using q1)) (by rw [← z]; exact q2)
          rw [setW_ne hne] at g1
          exact ⟨b2, o2, w2, w2', g1, by simpa using g2, g3, g4⟩
theorem eva_from {cf : CF} : ∀ (e : E) {env env' : En} {as : List Ag}, eva cf e env = .ok as env' → ∀ ag ∈ as, ∀ i, ag.from? = some i → i ∈ tou e .args
  | .nil, env, env', as, h, ag, hm, i, e => by cases h; simp at hm
  | .cons a b, env, env', as, h, ag, hm, i, e => by
    cases hs : slotOf a with
    | none =>
      rw [eva_cons hs] at h
      obtain ⟨x, e1, h1, h⟩ := Res.bind_ok h
      obtain ⟨as', e2, h2, h⟩ := Res.bind_ok h
      cases h
      simp only [tou]
      rcases List.mem_cons.mp hm with rfl | hm
      · cases e
      · exact List.mem_append_right _ (eva_from b h2 ag hm i e)
    | some k =>
      have ha : a = .v k := by cases a <;> cases hs; rfl
      subst ha
      rw [eva_slot] at h
      unfold agSlot at h
      simp only [tou, slotOf]
      split at h
      · obtain ⟨as', e1, h1, h⟩ := Res.bind_ok h
        split at h
        · cases h
          rcases List.mem_cons.mp hm with rfl | hm
          · cases e; exact List.mem_append_left _ (by simp)
          · exact List.mem_append_right _ (eva_from b h1 ag hm i e)
        · cases h
      · obtain ⟨as', e1, h1, h⟩ := Res.bind_ok h
        cases h
        rcases List.mem_cons.mp hm with rfl | hm
        · cases e
        · exact List.mem_append_right _ (eva_from b h1 ag hm i e)
      · obtain ⟨as', e1, h1, h⟩ := Res.bind_ok h
        cases h
        rcases List.mem_cons.mp hm with rfl | hm
        · cases e
        · exact List.mem_append_right _ (eva_from b h1 ag hm i e)
      · cases h
  | .c _, env, env', as, h, _, _, _, _ => by cases h
  | .v _, env, env', as, h, _, _, _, _ => by cases h
  | .op _ _ _, env, env', as, h, _, _, _, _ => by cases h
  | .cmp _ _ _, env, env', as, h, _, _, _, _ => by cases h
  | .chain _ _ _ _ _, env, env', as, h, _, _, _, _ => by cases h
  | .neg _, env, env', as, h, _, _, _, _ => by cases h
  | .no _, env, env', as, h, _, _, _, _ => by cases h
  | .an _ _, env, env', as, h, _, _, _, _ => by cases h
  | .oo _ _, env, env', as, h, _, _, _, _ => by cases h
  | .ite _ _ _, env, env', as, h, _, _, _, _ => by cases h
  | .tup _, env, env', as, h, _, _, _, _ => by cases h
  | .lst _, env, env', as, h, _, _, _, _ => by cases h
  | .ix _ _, env, env', as, h, _, _, _, _ => by cases h
  | .sl _ _ _, env, env', as, h, _, _, _, _ => by cases h
  | .rv _, env, env', as, h, _, _, _, _ => by cases h
  | .call _ _, env, env', as, h, _, _, _, _ => by cases h
  | .bi b es, env, env', as, h, _, _, _, _ => by
    unfold eva at h
    rw [ev1] at h
    split at h
    · cases h
    · cases h
  | .mt _ _ _, env, env', as, h, _, _, _, _ => by cases h
  | .lc _ _ _ _ _ _, env, env', as, h, _, _, _, _ => by cases h
  | .col _ _, env, env', as, h, _, _, _, _ => by cases h
section
variable {X : Cx} {tabs : List Addr} {cf : CF} {a b c : Expr} {a' b' c' : E} {pos : Pos}
theorem em_call {x : Str} {p : Pos} {es : List Expr} {e' : E} {f : Nat} (hp : ∀ ta, PA X es ta → PE X (.Call (.Name x p) es [] pos) (fun σ H Q => ta σ H fun vs H1 => spF (kx X tabs) cf f vs H1 Q E0)) (h : AM X tabs cf es e') : EM X tabs cf (.Call (.Name x p) es [] pos) (.call f e') := by
  refine ⟨fun vw ok => Sw.PE.weak (hp _ (h.run ok)) fun σ H Q h => ?_⟩
  obtain ⟨Z, env, t, env', st, he, q⟩ := h
  rw [ev_call] at he
  obtain ⟨as, env1, h1, he⟩ := Res.bind_ok he
  unfold doCall at he
  split at he
  · rename_i hags
    split at he
    · rename_i t1 ws' hcf
      obtain ⟨e2, env2, hgb0, he⟩ := Res.bind_ok he
      cases he
      obtain ⟨hgb, _⟩ := Res.of_ok hgb0
      have hgb : giveBack as ws' env1 = some env' := by
        cases hq : giveBack as ws' env1 with
        | none => rw [hq] at hgb; cases hgb
        | some z => rw [hq] at hgb; exact hgb
      obtain ⟨gb1, gb2, gb3⟩ := giveBack_spec hags hgb
      refine ⟨Z, env, as, env1, st, h1, fun vs Z1 H1 g1 r1 => ?_⟩
      have hlen := AgAll.len r1
      -- an argument that is an object: lent or new
      have argOwn : ∀ j ad, OwnAt (vs.map some) (as.map (·.w)) j ad → (∃ i b o, as[j]? = some ⟨.mu true o, some i⟩ ∧ env1[i]? = some (.mu b o) ∧ σ[i]? = some (some (.ref ad))) ∨ (∃ o, as[j]? = some ⟨.mu false o, none⟩ ∧ vs[j]? = some (.ref ad) ∧ ORep (kx X tabs) Z1 H1 ad o ∧ ¬ Z1 ad ∧ H ad = none ∧ ∀ i, ¬ OwnAt σ env1 i ad) := fun j ad ⟨⟨b, o, q1⟩, q2⟩ => by
        rw [List.getElem?_map] at q1 q2
        cases ha : as[j]? with
        | none => rw [ha] at q1; cases q1
        | some ag =>
          rw [ha] at q1
          have q1 : ag.w = .mu b o := Option.some.inj q1
          obtain ⟨v, hv, hr⟩ := r1.get ha
          rw [hv] at q2
          have q2 : v = .ref ad := by simpa using q2
          subst q2
          rcases hr with ⟨i, b', o', e1, e2, e3⟩ | ⟨d, e1, _⟩ | ⟨o', a1, e1, e2, w1, w2, w3, w4⟩
          · subst e1
            exact .inl ⟨i, b', o', rfl, e2, e3⟩
          · subst e1; cases q1
          · subst e1
            cases e2
            exact .inr ⟨o', rfl, hv, w1, w2, w3, w4⟩
      have stA : StOk (kx X tabs) Z1 H1 (vs.map some) (as.map (·.w)) := by
        refine ⟨by rw [List.length_map, List.length_map]; exact hlen, fun j d e => ?_, fun j d e => ?_, fun j b o e => ?_, fun j l ad q1 q2 => ?_, g1.st.tab, g1.st.zh⟩
        · rw [List.getElem?_map] at e
          cases ha : as[j]? with
          | none => rw [ha] at e; cases e
          | some ag =>
            rw [ha] at e
            have e : ag.w = .im d := Option.some.inj e
            obtain ⟨v, hv, hr⟩ := r1.get ha
            rcases hr with ⟨i, b', o', e1, _⟩ | ⟨d', e1, e2⟩ | ⟨o', a1, e1, _⟩
            · subst e1; cases e
            · subst e1; cases e; exact ⟨v, by rw [List.getElem?_map, hv]; rfl, e2⟩
            · subst e1; cases e
        · rw [List.getElem?_map] at e
          cases ha : as[j]? with
          | none => rw [ha] at e; cases e
          | some ag =>
            rw [ha] at e
            have e : ag.w = .fz d := Option.some.inj e
            obtain ⟨v, hv, hr⟩ := r1.get ha
            rcases hr with ⟨i, b', o', e1, _⟩ | ⟨d', e1, e2⟩ | ⟨o', a1, e1, _⟩ <;> subst e1 <;> cases e
        · rw [List.getElem?_map] at e
          cases ha : as[j]? with
          | none => rw [ha] at e; cases e
          | some ag =>
            rw [ha] at e
            have e : ag.w = .mu b o := Option.some.inj e
            obtain ⟨v, hv, hr⟩ := r1.get ha
            rcases hr with ⟨i, b', o', e1, e2, e3⟩ | ⟨d', e1, e2⟩ | ⟨o', a1, e1, e2, w1, w2, _⟩
            · subst e1
              cases e
              obtain ⟨ad, k1, k2, k3, _⟩ := g1.st.own e2
              rw [e3] at k1
              cases k1
              exact ⟨ad, by rw [List.getElem?_map, hv]; rfl, k2, k3⟩
            · subst e1; cases e
            · subst e1
              cases e
              subst e2
              exact ⟨a1, by rw [List.getElem?_map, hv]; rfl, w1, w2⟩
        · rcases argOwn j ad q1 with ⟨i, b, o, c1, c2, c3⟩ | ⟨o, c1, c2, c3, c4, c5, c6⟩
          · rcases argOwn l ad q2 with ⟨i', b', o', d1, d2, d3⟩ | ⟨o', d1, d2, d3, d4, d5, d6⟩
            · have : i = i' := g1.st.inj i i' ad ⟨⟨b, o, c2⟩, c3⟩ ⟨⟨b', o', d2⟩, d3⟩
              subst this
              exact agsOk_uniq hags j l _ _ i c1 d1 rfl rfl
            · exact absurd ⟨⟨b, o, c2⟩, c3⟩ (d6 i)
          · rcases argOwn l ad q2 with ⟨i', b', o', d1, d2, d3⟩ | ⟨o', d1, d2, d3, d4, d5, d6⟩
            · exact absurd ⟨⟨b', o', d2⟩, d3⟩ (c6 i')
            · exact AgAll.apart r1 c1 d1 c2 d2
      refine ⟨Z1, as.map (·.w), t, ws', hcf, stA, fun j ds e => ?_, fun v Z2 H2 cg cr => ?_⟩
      · rw [List.getElem?_map] at e
        cases ha : as[j]? with
        | none => rw [ha] at e; cases e
        | some ag =>
          rw [ha] at e
          have e : ag.w = .fz ds := Option.some.inj e
          obtain ⟨v, hv, hr⟩ := r1.get ha
          rcases hr with ⟨i, b', o', e1, _⟩ | ⟨d', e1, e2⟩ | ⟨o', a1, e1, _⟩ <;> subst e1 <;> cases e
      -- what the call keeps
      have kp : Keep Z1 H1 H2 := by
        have no : ∀ ad u, H1 ad = some u → (∀ xs, u = .lst xs → Z1 ad) → (∀ S n, u ≠ SetO X.w ad S n) → (∀ ps, u ≠ .tbl ps) → H2 ad = some u := fun ad u e hz hs ht => by
          refine cg.keep ad u e (g1.st.noTab e ht) fun j ow => ?_
          obtain ⟨hz1, hk⟩ := stA.noOwn ow
          rcases hk with ⟨xs, hk⟩ | ⟨S, n, hk⟩
          · rw [e] at hk; cases hk; exact hz1 (hz xs rfl)
          · rw [e] at hk; cases hk; exact hs S n rfl
        exact ⟨fun ad xs e => no ad _ e (fun _ z => by cases z) (fun _ _ z => by cases z) (fun _ z => by cases z), fun ad o u e => no ad _ e (fun _ z => by cases z) (fun _ _ z => by cases z) (fun _ z => by cases z), fun ad xs z e => no ad _ e (fun _ _ => z) (fun _ _ z => by cases z) (fun _ z => by cases z)⟩
      -- a slot that lent nothing
      have isLent : ∀ (i : Nat), (∃ (j : Nat) (ag : Ag), as[j]? = some ag ∧ ag.from? = some i) ∨ (∀ ag ∈ as, ag.from? ≠ some i) := fun i => by
        by_cases hl : ∃ ag ∈ as, ag.from? = some i
        · obtain ⟨ag, hm, e⟩ := hl
          obtain ⟨j, hj⟩ := List.getElem?_of_mem hm
          exact .inl ⟨j, ag, hj, e⟩
        · exact .inr fun ag hm e => hl ⟨ag, hm, e⟩
      -- what a slot that lent holds behind
      have lentAt : ∀ (j : Nat) (ag : Ag) (i : Nat), as[j]? = some ag → ag.from? = some i → ∃ (b : Bool) (o : O) (ad : Addr), env1[i]? = some (W.mu b o) ∧ σ[i]? = some (some (V.ref ad)) ∧ ((∃ (o' : O), env'[i]? = some (W.mu b o') ∧ ORep (kx X tabs) Z2 H2 ad o' ∧ ¬ Z2 ad) ∨ (∃ (ds : List D), env'[i]? = some (if b then W.fz ds else W.im (.lst ds)) ∧ Z2 ad ∧ Rep (kx X tabs) Z2 H2 (.lst ds) (.ref ad))) := fun j ag i e1 e2 => by
        obtain ⟨b, o, w, w', k1, k2, k3, k4⟩ := gb3 j ag i e1 e2
        obtain ⟨v0, hv, hr⟩ := r1.get e1
        rcases hr with ⟨i', b', o', f1, f2, f3⟩ | ⟨d', f1, _⟩ | ⟨o', a1, f1, _⟩
        · subst f1
          cases e2
          rw [k1] at f2
          cases f2
          obtain ⟨ad, m1, m2⟩ := cg.back j o (by rw [List.getElem?_map, e1]; rfl)
          rw [hv] at m1
          cases m1
          refine ⟨b, o, ad, k1, f3, ?_⟩
          rcases m2 with ⟨o2, m2, m3, m4⟩ | ⟨ds, m2, m3, m4⟩
          · rw [k2] at m2
            cases m2
            cases k3
            exact .inl ⟨o2, k4, m3, m4⟩
          · rw [k2] at m2
            cases m2
            cases k3
            exact .inr ⟨ds, k4, m3, m4⟩
        · subst f1; cases e2
        · subst f1; cases e2
      have sub1 : ∀ i ad, OwnAt σ env' i ad → OwnAt σ env1 i ad := fun i ad ⟨⟨b, o, k1⟩, k2⟩ => by
        rcases isLent i with ⟨j, ag, e1, e2⟩ | hn
        · obtain ⟨b', o', ad', f1, f2, _⟩ := lentAt j ag i e1 e2
          exact ⟨⟨b', o', f1⟩, k2⟩
        · rw [gb1 i hn] at k1
          exact ⟨⟨b, o, k1⟩, k2⟩
      have hg : Go (kx X tabs) (tou (.call f e') (.val vw)) σ Z H env Z2 H2 env' := by
        refine ⟨fun ad z => cg.zz ad (g1.zz ad z), fun ad z => ?_, fun ad u e ht hn => ?_, fun ad e => g1.there ad (cg.there ad e), fun i hi => ?_, fun i ad ow => g1.sub i ad (sub1 i ad ow), fun i hl => ?_, ?_⟩
        · rcases cg.zn ad z with k1 | k1 | ⟨j, k1⟩
          · exact g1.zn ad k1
          · exact .inr (.inl (g1.there ad k1))
          · rcases argOwn j ad k1 with ⟨i, b, o, c1, c2, c3⟩ | ⟨o, c1, c2, c3, c4, c5, c6⟩
            · exact .inr (.inr ⟨i, g1.sub i ad ⟨⟨b, o, c2⟩, c3⟩⟩)
            · exact .inr (.inl c5)
        · refine cg.keep ad u (g1.keep ad u e ht hn) ht fun j k1 => ?_
          rcases argOwn j ad k1 with ⟨i, b, o, c1, c2, c3⟩ | ⟨o, c1, c2, c3, c4, c5, c6⟩
          · exact hn i (eva_from e' h1 _ (List.mem_of_getElem? c1) i rfl) (g1.sub i ad ⟨⟨b, o, c2⟩, c3⟩)
          · rw [e] at c5; cases c5
        · have hn : ∀ ag ∈ as, ag.from? ≠ some i := fun ag hm e => hi (eva_from e' h1 ag hm i e)
          rw [gb1 i hn]
          exact g1.unt i hi
        · have hl1 := g1.lent i hl
          rcases isLent i with ⟨j, ag, e1, e2⟩ | hn
          · obtain ⟨b', o', ad', f1, f2, f3⟩ := lentAt j ag i e1 e2
            have hb : b' = true := by
              rcases hl1 with ⟨o2, k⟩ | ⟨ds, k⟩ <;> rw [f1] at k <;> cases k
              rfl
            subst hb
            rcases f3 with ⟨o2, k, _⟩ | ⟨ds, k, _⟩
            · exact .inl ⟨o2, k⟩
            · exact .inr ⟨ds, k⟩
          · unfold Lent
            rw [gb1 i hn]
            exact hl1
        · refine ⟨by rw [gb2]; exact g1.st.len, fun i d e => ?_, fun i d e => ?_, fun i b o e => ?_, fun i l ad k1 k2 => g1.st.inj i l ad (sub1 i ad k1) (sub1 l ad k2), cg.tab, cg.zh⟩
          · rcases isLent i with ⟨j, ag, e1, e2⟩ | hn
            · obtain ⟨b', o', ad', f1, f2, f3⟩ := lentAt j ag i e1 e2
              rcases f3 with ⟨o2, k, _⟩ | ⟨ds, k, _, k2⟩
              · rw [e] at k; cases k
              · rw [e] at k
                cases b' with
                | true => cases k
                | false => cases k; exact ⟨_, f2, k2⟩
            · rw [gb1 i hn] at e
              obtain ⟨v0, k1, k2⟩ := g1.st.im i d e
              exact ⟨v0, k1, Rep.keep kp cg.zz d k2⟩
          · rcases isLent i with ⟨j, ag, e1, e2⟩ | hn
            · obtain ⟨b', o', ad', f1, f2, f3⟩ := lentAt j ag i e1 e2
              rcases f3 with ⟨o2, k, _⟩ | ⟨ds, k, k1, k2⟩
              · rw [e] at k; cases k
              · rw [e] at k
                cases b' with
                | true => cases k; exact ⟨_, f2, k1, k2⟩
                | false => cases k
            · rw [gb1 i hn] at e
              obtain ⟨v0, k1, k3, k2⟩ := g1.st.fz i d e
              exact ⟨v0, k1, cg.zz _ k3, Rep.keep kp cg.zz _ k2⟩
          · rcases isLent i with ⟨j, ag, e1, e2⟩ | hn
            · obtain ⟨b', o', ad', f1, f2, f3⟩ := lentAt j ag i e1 e2
              rcases f3 with ⟨o2, k, k1, k2⟩ | ⟨ds, k, _⟩
              · rw [e] at k; cases k; exact ⟨_, f2, k1, k2⟩
              · rw [e] at k
                cases b' <;> cases k
            · rw [gb1 i hn] at e
              obtain ⟨ad, k1, k2, k3, ow⟩ := g1.st.own e
              have noA : ∀ j, ¬ OwnAt (vs.map some) (as.map (·.w)) j ad := fun j z => by
                rcases argOwn j ad z with ⟨i', b', o', c1, c2, c3⟩ | ⟨o', c1, c2, c3, c4, c5, c6⟩
                · have : i' = i := g1.st.inj i' i ad ⟨⟨b', o', c2⟩, c3⟩ ow
                  subst this
                  exact hn _ (List.mem_of_getElem? c1) rfl
                · exact c6 i ow
              obtain ⟨_, hk⟩ := g1.st.noOwn ow
              have hs : H2 ad = H1 ad := by
                rcases hk with ⟨xs, hk⟩ | ⟨S, n, hk⟩
                · rw [cg.keep ad _ hk (g1.st.noTab hk fun _ z => by cases z) noA, hk]
                · rw [cg.keep ad _ hk (g1.st.noTab hk fun _ z => by cases z) noA, hk]
              refine ⟨ad, k1, ORep.keep kp cg.zz hs k2, fun z => ?_⟩
              rcases cg.zn ad z with m | m | ⟨j, m⟩
              · exact k3 m
              · rcases hk with ⟨xs, hk⟩ | ⟨S, n, hk⟩ <;> rw [m] at hk <;> cases hk
              · exact noA j m
      refine q v Z2 H2 hg (.nu ?_)
      cases t with
      | im d => exact cr
      | nu o =>
        obtain ⟨ad, e, k1, k2, k3⟩ := cr
        have hH : H ad = none := by
          rcases k3 with k3 | ⟨j, k3, k4⟩
          · exact g1.there ad k3
          · rcases argOwn j ad k3 with ⟨i, b, o2, c1, c2, c3⟩ | ⟨o2, c1, c2, c3, c4, c5, c6⟩
            · exact absurd (.inl ⟨o2, by rw [List.getElem?_map, c1]; rfl⟩) k4
            · exact c5
        refine ⟨ad, e, k1, k2, hH, fun i ow => ?_⟩
        obtain ⟨_, hk⟩ := st.noOwn (g1.sub i ad (sub1 i ad ow))
        rcases hk with ⟨xs, hk⟩ | ⟨S, n, hk⟩ <;> rw [hH] at hk <;> cases hk
    · cases he
  · cases he
end
end Sw

set_option Elab.async false
set_option linter.all false
set_option maxRecDepth 100000
/-! Comprehensions: slots wiped, a turn. -/
namespace Sw
open PySem PySem.Spec PyProof.Rows L2
theorem wipeE_len : ∀ (env : En) (own : List Nat), (wipeE env own).length = env.length
  | _, [] => rfl
  | env, i :: r => by unfold wipeE; rw [wipeE_len]; exact List.length_set
theorem wipeE_ne : ∀ {env : En} {own : List Nat} {i : Nat}, i ∉ own → (wipeE env own)[i]? = env[i]?
  | _, [], _, _ => rfl
  | env, j :: r, i, h => by
    unfold wipeE
    rw [wipeE_ne (fun z => h (List.mem_cons_of_mem _ z)), setW_ne fun e => h (by rw [e]; exact List.mem_cons_self)]
theorem wipeE_own : ∀ {env : En} {own : List Nat} {i : Nat}, i ∈ own → i < env.length → (wipeE env own)[i]? = some .un
  | env, j :: r, i, h, hl => by
    unfold wipeE
    by_cases hr : i ∈ r
    · exact wipeE_own hr (by unfold setW; rw [List.length_set]; exact hl)
    · rw [wipeE_ne hr]
      rcases List.mem_cons.mp h with e | e
      · subst e; exact setW_same (List.getElem?_eq_getElem hl)
      · exact absurd e hr
theorem wipeE_at {env : En} {own : List Nat} {i : Nat} {w : W} (h : (wipeE env own)[i]? = some w) (hw : w ≠ .un) : i ∉ own ∧ env[i]? = some w := by
  by_cases hi : i ∈ own
  · have hl : i < env.length := by rw [← wipeE_len env own]; exact (List.getElem?_eq_some_iff.mp h).1
    rw [wipeE_own hi hl] at h
    cases h
    exact absurd rfl hw
  · rw [wipeE_ne hi] at h
    exact ⟨hi, h⟩
theorem unwipeE_len : ∀ (old env : En) (own : List Nat), (unwipeE old env own).length = env.length
  | _, _, [] => rfl
  | old, env, i :: r => by unfold unwipeE; rw [unwipeE_len]; exact List.length_set
theorem unwipeE_ne : ∀ {old env : En} {own : List Nat} {i : Nat}, i ∉ own → (unwipeE old env own)[i]? = env[i]?
  | _, _, [], _, _ => rfl
  | old, env, j :: r, i, h => by
    unfold unwipeE
    rw [unwipeE_ne (fun z => h (List.mem_cons_of_mem _ z)), setW_ne fun e => h (by rw [e]; exact List.mem_cons_self)]
theorem unwipeE_own : ∀ {old env : En} {own : List Nat} {i : Nat}, i ∈ own → old.length = env.length → (unwipeE old env own)[i]? = old[i]?
  | old, env, j :: r, i, h, hl => by
    unfold unwipeE
    by_cases hr : i ∈ r
    · exact unwipeE_own hr (by unfold setW; rw [List.length_set]; exact hl)
    · rw [unwipeE_ne hr]
      rcases List.mem_cons.mp h with e | e
      · subst e
        by_cases hi : i < env.length
        · rw [setW_same (List.getElem?_eq_getElem hi)]
          have : i < old.length := by omega
          rw [List.getD_eq_getElem?_getD, List.getElem?_eq_getElem this]; rfl
        · rw [List.getElem?_eq_none (by unfold setW; rw [List.length_set]; omega), List.getElem?_eq_none (by omega)]
      · exact absurd e hr
theorem wipe_ne {σ : L2.St} {i : Nat} : ∀ {vs : List Nat}, i ∉ vs → (wipe σ vs)[i]? = σ[i]?
  | [], _ => rfl
  | v :: vs, h => by
    unfold wipe
    rw [List.getElem?_set_ne fun e => h (by rw [e]; exact List.mem_cons_self)]
    exact wipe_ne fun z => h (List.mem_cons_of_mem _ z)
theorem wipe_own {σ : L2.St} {i : Nat} : ∀ {vs : List Nat}, i ∈ vs → i < σ.length → (wipe σ vs)[i]? = some none
  | v :: vs, h, hl => by
    unfold wipe
    by_cases e : v = i
    · subst e; exact List.getElem?_set_self (by rw [wipe_length]; exact hl)
    · rw [List.getElem?_set_ne e]
      exact wipe_own ((List.mem_cons.mp h).resolve_left fun z => e z.symm) hl
theorem wipe_eq {σ σ2 : L2.St} {vs : List Nat} (hl : σ2.length = σ.length) (h : ∀ i, i ∉ vs → σ2[i]? = σ[i]?) : wipe σ2 vs = wipe σ vs := by
  refine List.ext_getElem? fun i => ?_
  by_cases hi : i ∈ vs
  · by_cases hb : i < σ.length
    · rw [wipe_own hi hb, wipe_own hi (by omega)]
    · rw [List.getElem?_eq_none (by rw [wipe_length]; omega), List.getElem?_eq_none (by rw [wipe_length]; omega)]
  · rw [wipe_ne hi, wipe_ne hi, h i hi]
theorem wipe_wipe {σ : L2.St} {vs : List Nat} : wipe (wipe σ vs) vs = wipe σ vs := wipe_eq (wipe_length _ _) fun i hi => wipe_ne hi
section
variable {k : Kx} {σ σ2 : L2.St} {env env0 env1 env3 : En} {Z Z0 Z1 Z3 : Addr → Prop} {H H0 H1 H3 : Hp} {own : List Nat}
theorem own_wipe {i : Nat} {a : Addr} : OwnAt (wipe σ own) (wipeE env own) i a → i ∉ own ∧ OwnAt σ env i a := fun ⟨⟨b, o, q⟩, q2⟩ => by
  obtain ⟨h1, h2⟩ := wipeE_at q fun e => by cases e
  rw [wipe_ne h1] at q2
  exact ⟨h1, ⟨b, o, h2⟩, q2⟩
theorem own_unwipe {i : Nat} {a : Addr} (hi : i ∉ own) : OwnAt σ env i a → OwnAt (wipe σ own) (wipeE env own) i a := fun ⟨⟨b, o, q⟩, q2⟩ => ⟨⟨b, o, by rw [wipeE_ne hi]; exact q⟩, by rw [wipe_ne hi]; exact q2⟩
theorem StOk.wipe (s : StOk k Z H σ env) : StOk k Z H (L2.wipe σ own) (wipeE env own) where
  len := by rw [wipeE_len, wipe_length]; exact s.len
  im := fun i d e => by
    obtain ⟨h1, h2⟩ := wipeE_at e fun e => by cases e
    rw [wipe_ne h1]
    exact s.im i d h2
  fz := fun i d e => by
    obtain ⟨h1, h2⟩ := wipeE_at e fun e => by cases e
    rw [wipe_ne h1]
    exact s.fz i d h2
  mu := fun i b o e => by
    obtain ⟨h1, h2⟩ := wipeE_at e fun e => by cases e
    rw [wipe_ne h1]
    exact s.mu i b o h2
  inj := fun i j a h1 h2 => s.inj i j a (own_wipe h1).2 (own_wipe h2).2
  tab := s.tab
  zh := s.zh
theorem lent_wipe {i : Nat} (h : Lent (wipeE env own) i) : i ∉ own ∧ Lent env i := by
  rcases h with ⟨o, h⟩ | ⟨ds, h⟩
  · obtain ⟨h1, h2⟩ := wipeE_at h fun e => by cases e
    exact ⟨h1, .inl ⟨o, h2⟩⟩
  · obtain ⟨h1, h2⟩ := wipeE_at h fun e => by cases e
    exact ⟨h1, .inr ⟨ds, h2⟩⟩
theorem lent_ne {i : Nat} (hi : i ∉ own) (h : Lent env i) : Lent (wipeE env own) i := by
  unfold Lent
  rw [wipeE_ne hi]
  exact h
mutual
theorem give_out : ∀ {g : G} {d : D} {env env' : En}, give g d env = some env' → (∀ i, i ∉ g.sl → env'[i]? = env[i]?) ∧ env'.length = env.length ∧ ∀ (i : Nat) b o, env'[i]? = some (.mu b o) → env[i]? = some (.mu b o)
  | .n i, d, env, env', h => by
    obtain ⟨hc, rfl⟩ := put_some (show put env i (.im d) = some env' from h)
    refine ⟨fun j hj => setW_ne fun e => hj (by rw [e]; exact List.mem_singleton.mpr rfl), List.length_set, fun j b o q => ?_⟩
    by_cases e : j = i
    · subst e
      obtain ⟨⟨w, hw⟩, _⟩ := canSet_at hc
      rw [setW_same hw] at q
      cases q
    · rw [setW_ne e] at q
      exact q
  | .t gs, d, env, env', h => by
    cases d with
    | tup ds =>
      have q := gives_out (g := gs) (ds := ds) (env := env) (env' := env') h
      exact ⟨fun i hi => q.1 i hi, q.2⟩
    | lst ds =>
      have q := gives_out (g := gs) (ds := ds) (env := env) (env' := env') h
      exact ⟨fun i hi => q.1 i hi, q.2⟩
    | pr ds =>
      have q := gives_out (g := gs) (ds := ds) (env := env) (env' := env') h
      exact ⟨fun i hi => q.1 i hi, q.2⟩
    | _ => cases h
  | .nil, d, env, env', h => by cases d <;> cases h
  | .cons _ _, d, env, env', h => by cases d <;> cases h
theorem gives_out : ∀ {g : G} {ds : List D} {env env' : En}, gives g ds env = some env' → (∀ i, i ∉ g.sl → env'[i]? = env[i]?) ∧ env'.length = env.length ∧ ∀ (i : Nat) b o, env'[i]? = some (.mu b o) → env[i]? = some (.mu b o)
  | .nil, [], env, env', h => by cases h; exact ⟨fun _ _ => rfl, rfl, fun _ _ _ q => q⟩
  | .nil, _ :: _, env, env', h => by cases h
  | .cons a b, [], env, env', h => by cases h
  | .cons a b, d :: ds, env, env', h => by
    unfold gives at h
    split at h
    · rename_i env1 h1
      obtain ⟨p1, p2, p3⟩ := give_out h1
      obtain ⟨q1, q2, q3⟩ := gives_out h
      exact ⟨fun i hi => (q1 i fun z => hi (List.mem_append_right _ z)).trans (p1 i fun z => hi (List.mem_append_left _ z)), q2.trans p2, fun i b o q => p3 i b o (q3 i b o q)⟩
    · cases h
  | .n _, ds, env, env', h => by cases ds <;> cases h
  | .t _, ds, env, env', h => by cases ds <;> cases h
end
/-- a turn, seen from outside of the own slots -/
theorem Go.turn {t : List Nat} (hσ : ∀ i, i ∉ own → σ2[i]? = σ[i]?) (hl : env1.length = env.length) (hE : ∀ i, i ∉ own → env1[i]? = (wipeE env own)[i]?) (hm : ∀ (i : Nat) b o, env1[i]? = some (.mu b o) → (wipeE env own)[i]? = some (.mu b o))
    (h1 : StOk k Z H σ2 env1) (h2 : σ.length = env.length) (g : Go k t σ2 Z H env1 Z3 H3 env3) : Go k (t.filter fun i => !own.contains i) (wipe σ own) Z H (wipeE env own) Z3 H3 (wipeE env3 own) := by
  have o1 : ∀ i a, OwnAt σ2 env1 i a → i ∉ own ∧ OwnAt (wipe σ own) (wipeE env own) i a := fun i a ⟨⟨b, o, q⟩, q2⟩ => by
    have q3 := hm i b o q
    obtain ⟨hi, q4⟩ := wipeE_at q3 fun e => by cases e
    rw [hσ i hi] at q2
    exact ⟨hi, ⟨b, o, q3⟩, by rw [wipe_ne hi]; exact q2⟩
  have l3 : env3.length = env.length := by rw [g.st.len, ← h1.len, hl]
  have σl : σ2.length = σ.length := by rw [← h1.len, hl, h2]
  refine ⟨g.zz, fun a z => ?_, fun a o h ht hn => g.keep a o h ht fun i hi ow => ?_, g.there, fun i hi => ?_, fun i a ow => ?_, fun i hL => ?_, ?_⟩
  · rcases g.zn a z with q | q | ⟨i, q⟩
    · exact .inl q
    · exact .inr (.inl q)
    · exact .inr (.inr ⟨i, (o1 i a q).2⟩)
  · obtain ⟨q1, q2⟩ := o1 i a ow
    exact hn i (List.mem_filter.mpr ⟨hi, by simpa using q1⟩) q2
  · by_cases ho : i ∈ own
    · by_cases hb : i < env.length
      · rw [wipeE_own ho (by omega), wipeE_own ho hb]
      · rw [List.getElem?_eq_none (by rw [wipeE_len]; omega), List.getElem?_eq_none (by rw [wipeE_len]; omega)]
    · rw [wipeE_ne ho, ← hE i ho]
      exact g.unt i fun z => hi (List.mem_filter.mpr ⟨z, by simpa using ho⟩)
  · have e : wipe σ2 own = wipe σ own := wipe_eq σl hσ
    rw [← e] at ow
    obtain ⟨hi, q⟩ := own_wipe ow
    exact (o1 i a (g.sub i a q)).2
  · obtain ⟨hi, _⟩ := lent_wipe hL
    refine lent_ne hi (g.lent i ?_)
    unfold Lent at hL ⊢
    rw [hE i hi]
    exact hL
  · rw [← wipe_eq σl hσ]
    exact g.st.wipe
theorem TRep.wiped {x : T} {v : V} (h : TRep k H Z3 H3 σ2 env3 x v) (e : wipe σ2 own = wipe σ own) : TRep k H Z3 H3 (wipe σ own) (wipeE env3 own) x v := by
  cases x with
  | im d => exact h
  | nu o =>
    obtain ⟨a, e1, r, z, f, n⟩ := h
    exact ⟨a, e1, r, z, f, fun i q => by rw [← e] at q; exact n i (own_wipe q).2⟩
/-- behind a comprehension: the own slots are as they were -/
theorem Go.out {t : List Nat} (s : StOk k Z0 H0 σ env0) (g : Go k t (wipe σ own) Z0 H0 (wipeE env0 own) Z1 H1 (wipeE env1 own)) (hl : env1.length = env0.length) (ht : ∀ i ∈ t, i ∉ own) : Go k t σ Z0 H0 env0 Z1 H1 (unwipeE env0 env1 own) := by
  have kp := g.keepK s.wipe
  have at_ : ∀ (i : Nat) w, (unwipeE env0 env1 own)[i]? = some w → (i ∈ own ∧ env0[i]? = some w) ∨ (i ∉ own ∧ (wipeE env1 own)[i]? = some w) := fun i w q => by
    by_cases hi : i ∈ own
    · rw [unwipeE_own hi hl.symm] at q; exact .inl ⟨hi, q⟩
    · rw [unwipeE_ne hi] at q; exact .inr ⟨hi, by rw [wipeE_ne hi]; exact q⟩
  have sub : ∀ i a, OwnAt σ (unwipeE env0 env1 own) i a → OwnAt σ env0 i a := fun i a ⟨⟨b, o, q⟩, q2⟩ => by
    rcases at_ i _ q with ⟨hi, q⟩ | ⟨hi, q⟩
    · exact ⟨⟨b, o, q⟩, q2⟩
    · exact (own_wipe (g.sub i a ⟨⟨b, o, q⟩, by rw [wipe_ne hi]; exact q2⟩)).2
  refine ⟨g.zz, fun a z => ?_, fun a o h h2 hn => g.keep a o h h2 fun i hi ow => hn i hi (own_wipe ow).2, g.there, fun i hi => ?_, sub, fun i hL => ?_, ?_⟩
  · rcases g.zn a z with q | q | ⟨i, q⟩
    · exact .inl q
    · exact .inr (.inl q)
    · exact .inr (.inr ⟨i, (own_wipe q).2⟩)
  · by_cases ho : i ∈ own
    · exact unwipeE_own ho hl.symm
    · rw [unwipeE_ne ho]
      have := g.unt i hi
      rw [wipeE_ne ho, wipeE_ne ho] at this
      exact this
  · unfold Lent
    by_cases ho : i ∈ own
    · rw [unwipeE_own ho hl.symm]; exact hL
    · rw [unwipeE_ne ho]
      exact (lent_wipe (g.lent i (lent_ne ho hL))).2
  · refine ⟨by rw [unwipeE_len, hl]; exact s.len, fun i d q => ?_, fun i d q => ?_, fun i b o q => ?_, fun i j a q1 q2 => s.inj i j a (sub i a q1) (sub j a q2), g.st.tab, g.st.zh⟩
    · rcases at_ i _ q with ⟨hi, q⟩ | ⟨hi, q⟩
      · obtain ⟨v, h1, h2⟩ := s.im i d q
        exact ⟨v, h1, h2.keep kp g.zz⟩
      · have := g.st.im i d q
        rw [wipe_ne hi] at this
        exact this
    · rcases at_ i _ q with ⟨hi, q⟩ | ⟨hi, q⟩
      · obtain ⟨v, h1, h2, h3⟩ := s.fz i d q
        exact ⟨v, h1, g.zz v h2, h3.keep kp g.zz⟩
      · have := g.st.fz i d q
        rw [wipe_ne hi] at this
        exact this
    · rcases at_ i _ q with ⟨hi, q⟩ | ⟨hi, q⟩
      · obtain ⟨a, h1, h2, h3, ow⟩ := s.own q
        have no : ∀ j, ¬ OwnAt (wipe σ own) (wipeE env0 own) j a := fun j z => by
          obtain ⟨hj, z⟩ := own_wipe z
          exact hj (by rw [s.inj j i a z ow]; exact hi)
        have hH : ∃ u, H0 a = some u ∧ ∀ ps, u ≠ .tbl ps := by
          cases o with
          | l ds => obtain ⟨vs, h, _⟩ := h2; exact ⟨_, h, fun _ q => by cases q⟩
          | s xs => obtain ⟨_, h⟩ := h2; exact ⟨_, h, fun _ q => by cases q⟩
        obtain ⟨u, hu, hnt⟩ := hH
        have kpa := g.keep a u hu (s.noTab hu hnt) fun j _ => no j
        refine ⟨a, h1, h2.keep kp g.zz (kpa.trans hu.symm), fun z => ?_⟩
        rcases g.zn a z with q | q | ⟨j, q⟩
        · exact h3 q
        · rw [hu] at q; cases q
        · exact no j q
      · have := g.st.mu i b o q
        rw [wipe_ne hi] at this
        exact this
/-- a list that is being made is written -/
theorem Go.write {t : List Nat} {p : Addr} {vs ws : List V} (g : Go k t σ Z H env Z1 H1 env1) (h0 : H p = none) (h1 : H1 p = some (.lst vs)) (hz : ¬ Z1 p) (hn : ∀ i, ¬ OwnAt σ env1 i p) : Go k t σ Z H env Z1 (upd H1 p (.lst ws)) env1 := by
  have ne : ∀ a u, H1 a = some u → (∀ l, u ≠ .lst l) → upd H1 p (.lst ws) a = some u := fun a u e h => by
    rw [upd_ne fun z => h vs (by rw [z, h1] at e; exact (Option.some.inj e).symm)]; exact e
  have kp : Keep Z1 H1 (upd H1 p (.lst ws)) := ⟨fun a _ e => ne a _ e (fun _ q => by cases q), fun a _ _ e => ne a _ e (fun _ q => by cases q), fun a _ z e => by rw [upd_ne (fun q : a = p => hz (q ▸ z))]; exact e⟩
  refine ⟨g.zz, g.zn, fun a o h ht ho => ?_, fun a h => g.there a ?_, g.unt, g.sub, g.lent, g.st.keepK kp (fun _ z => z) (fun i a ow => ⟨upd_ne fun e => hn i (e ▸ ow), (g.st.noOwn ow).1⟩) (fun P hP => ?_) fun a z => ?_⟩
  · rw [upd_ne (ne_of_none h h0)]
    exact g.keep a o h ht ho
  · by_cases e : a = p
    · rw [e, upd_same] at h; cases h
    · rw [upd_ne e] at h; exact h
  · obtain ⟨ps, e, r⟩ := g.st.tab P hP
    exact ⟨ps, ne P _ e (fun _ q => by cases q), r⟩
  · by_cases e : a = p
    · exact absurd (e ▸ z) hz
    · rw [upd_ne e]; exact g.st.zh a z
end
end Sw

set_option Elab.async false
set_option linter.all false
set_option maxRecDepth 100000
/-! List comprehensions. -/
namespace Sw
open PySem PySem.Spec PyProof.Rows L2
/-- a clause's tests -/
def ifsR (cf : CF) (e : E) (env : En) : Res Bool := if isNil e then .ok true env else truthR (ev cf e true env)
def RdTs (k : Kx) (cf : CF) (e : E) : TT := fun σ H Q => ∃ Z env b env', StOk k Z H σ env ∧ ifsR cf e env = .ok b env' ∧
  ∀ Z' H', Go k (tou e (.val true)) σ Z H env Z' H' env' → Q b H'
structure TsM (X : Cx) (tabs : List Addr) (cf : CF) (ifs : List Expr) (e' : E) : Prop where
  run : okE e' (.val true) = true → PTs X ifs (RdTs (kx X tabs) cf e')
theorem PTs.weak {X : Cx} {e : List Expr} {t t' : TT} (h : PTs X e t) (hw : ∀ σ H Q, t' σ H Q → t σ H Q) : PTs X e t' := ⟨fun pins s σ H Q I q => h.run pins s σ H Q I (hw σ H Q q)⟩
section
variable {X : Cx} {tabs : List Addr} {cf : CF}
theorem tsm_nil : TsM X tabs cf [] .nil := by
  refine ⟨fun ok => Sw.PTs.weak pts_nil fun σ H Q h => ?_⟩
  obtain ⟨Z, env, b, env', st, he, q⟩ := h
  cases he
  exact q Z H (Go.refl st)
theorem tsm_one {c : Expr} {c' : E} (h : TM X tabs cf c c') (hn : isNil c' = false) : TsM X tabs cf [c] c' := by
  refine ⟨fun ok => Sw.PTs.weak (pts_one (h.run ok)) fun σ H Q h => ?_⟩
  obtain ⟨Z, env, b, env', st, he, q⟩ := h
  unfold ifsR at he
  rw [hn] at he
  exact ⟨Z, env, b, env', st, he, q⟩
end
theorem Keep.write {Z1 : Addr → Prop} {H1 : Hp} {p : Addr} {vs ws : List V} (h1 : H1 p = some (.lst vs)) (hz : ¬ Z1 p) : Keep Z1 H1 (upd H1 p (.lst ws)) := by
  have ne : ∀ a u, H1 a = some u → (∀ l, u ≠ .lst l) → upd H1 p (.lst ws) a = some u := fun a u e h => by
    rw [upd_ne fun z => h vs (by rw [z, h1] at e; exact (Option.some.inj e).symm)]; exact e
  exact ⟨fun a _ e => ne a _ e (fun _ q => by cases q), fun a _ _ e => ne a _ e (fun _ q => by cases q), fun a _ z e => by rw [upd_ne (fun q : a = p => hz (q ▸ z))]; exact e⟩
theorem StOk.nobody {k : Kx} {Z : Addr → Prop} {H : Hp} {σ : L2.St} {env : En} {p : Addr} (s : StOk k Z H σ env) (h : H p = none) : ∀ i, ¬ OwnAt σ env i p := fun i q => by
  obtain ⟨_, q⟩ := s.noOwn q
  rcases q with ⟨_, q⟩ | ⟨_, _, q⟩ <;> rw [h] at q <;> cases q
/-- one turn of a comprehension -/
theorem lcLoop_cons {kd : LK} {own : List Nat} {g : G} {ifs : En → Res Bool} {e : En → Res T} {x : D} {xs acc : List D} {env envF : En} {t : T} (h : lcLoop kd own g ifs e (x :: xs) acc env = .ok t envF) :
    ∃ env1 b env2, give g x (wipeE env own) = some env1 ∧ ifs env1 = .ok b env2 ∧ ((b = false ∧ lcLoop kd own g ifs e xs acc env2 = .ok t envF) ∨
      (b = true ∧ ∃ t1 env3, e env2 = .ok t1 env3 ∧ ((∃ acc', accStep kd acc t1 = some (.go acc') ∧ lcLoop kd own g ifs e xs acc' env3 = .ok t envF) ∨ ∃ c, accStep kd acc t1 = some (.stop c) ∧ t = .im (.bl c) ∧ envF = env3))) := by
  unfold lcLoop at h
  split at h
  · cases h
  · rename_i env1 h1
    obtain ⟨b, env2, h2, h⟩ := Res.bind_ok h
    refine ⟨env1, b, env2, h1, h2, ?_⟩
    cases b with
    | false => exact .inl ⟨rfl, h⟩
    | true =>
      obtain ⟨t1, env3, h3, h⟩ := Res.bind_ok (show (e env2).bind _ = _ from h)
      refine .inr ⟨rfl, t1, env3, h3, ?_⟩
      split at h
      · rename_i acc' e1
        exact .inl ⟨acc', e1, h⟩
      · rename_i c e1
        cases h
        exact .inr ⟨c, e1, rfl, rfl⟩
      · cases h
theorem rd_lc {k : Kx} {cf : CF} {own : List Nat} {g : G} {it' ifs' e' : E} {vw : Bool} {σ : L2.St} {H : Hp} {Q : VK} (hsl : ∀ i, i ∉ own → i ∉ g.sl) (h : RdE k cf (.lc .list own g it' ifs' e') vw σ H Q) :
    tLc (RdI k cf it') (RdG k g) (RdTs k cf ifs') (RdE k cf e' false) own σ H Q := by
  obtain ⟨Z, env, t, env', st, hev, q⟩ := h
  rw [ev_lc] at hev
  obtain ⟨xs, env0, h0, hev⟩ := Res.bind_ok hev
  obtain ⟨t1, envF, hl0, hev⟩ := Res.bind_ok hev
  cases hev
  have hl0 : lcLoop .list own g (ifsR cf ifs') (fun env => ev cf e' false env) xs [] env0 = .ok t envF := hl0
  refine ⟨Z, env, xs, env0, st, h0, fun J Z0 H0 g0 hJ D hD => ?_⟩
  have stw : StOk (k) Z0 H0 (wipe σ own) (wipeE env0 own) := g0.st.wipe
  have len0 : env0.length = σ.length := g0.st.len
  generalize htt : ((tou ifs' (.val true) ++ tou e' (.val false)).filter fun i => !own.contains i) = tt
  refine ⟨fun i m H1 => m = xs.length - i ∧ i ≤ xs.length ∧ ∃ Z1 env1 acc vs, Go (k) tt (wipe σ own) Z0 H0 (wipeE env0 own) Z1 H1 (wipeE env1 own) ∧ env1.length = env0.length ∧ H1 D = some (.lst vs) ∧ RepAll (k) Z1 H1 acc.reverse vs ∧
      ¬ Z1 D ∧ (∀ i, ¬ OwnAt (wipe σ own) (wipeE env1 own) i D) ∧ lcLoop .list own g (ifsR cf ifs') (fun env => ev cf e' false env) (xs.drop i) acc env1 = .ok t envF, ?_, ?_⟩
  · refine ⟨xs.length, by omega, Nat.zero_le _, Z0, env0, [], [], (Go.refl stw).new hD, rfl, upd_same, rfl, fun z => stw.zh D z hD, stw.nobody hD, by rw [List.drop_zero]; exact hl0⟩
  rintro i m H1 ⟨rfl, hi1, Z1, env1, acc, vs, g1, hlen, hD1, r1, nz1, no1, hl⟩
  have hj := hJ Z1 H1 g1.zz (g1.keepK stw) i
  by_cases hlt : i < xs.length
  · have hd : xs[i]? = some xs[i] := List.getElem?_eq_getElem hlt
    obtain ⟨hgo, hy⟩ := hj.1 _ hd
    rw [List.drop_eq_getElem_cons hlt] at hl
    obtain ⟨env2, b, env3, hgv, hif, hl⟩ := lcLoop_cons hl
    refine .inr ⟨hgo, _, fun H' nx => ⟨xs.length - (i + 1), by omega, rfl, hlt, nx⟩, fun x H3 hyl => ?_⟩
    obtain ⟨hH3, hrep⟩ := hy x H3 hyl
    have g3D : Go (k) tt (wipe σ own) Z0 H0 (wipeE env0 own) Z1 H3 (wipeE env1 own) ∧ H3 D = some (.lst vs) ∧ Keep Z1 H1 H3 := by
      rcases hH3 with rfl | ⟨p, ho, hp0, rfl⟩
      · exact ⟨g1, hD1, .refl⟩
      · exact ⟨g1.new hp0, by rw [upd_ne (ne_of_none hD1 hp0)]; exact hD1, .new hp0⟩
    obtain ⟨g3, hD3, kp3⟩ := g3D
    obtain ⟨go1, go2, go3⟩ := give_out hgv
    refine ⟨Z1, wipeE env1 own, _, env2, g3.st, hrep, hgv, fun σ2 gS hσ => ?_⟩
    have hσ2 : ∀ i, i ∉ own → σ2[i]? = σ[i]? := fun i hi => by rw [hσ i (hsl i hi), wipe_ne hi]
    have l2 : env2.length = env1.length := by rw [go2, wipeE_len]
    have σl : σ2.length = σ.length := by rw [← gS.st.len, l2, hlen, len0]
    have ew : wipe σ2 own = wipe σ own := wipe_eq σl hσ2
    have mkT : ∀ {tq : List Nat} {Zq : Addr → Prop} {Hq : Hp} {eq : En}, Go (k) tq σ2 Z1 H3 env2 Zq Hq eq → Go (k) (tq.filter fun i => !own.contains i) (wipe σ own) Z1 H3 (wipeE env1 own) Zq Hq (wipeE eq own) := fun {tq Zq Hq eq} gq =>
      Go.turn hσ2 l2 (fun i hi => go1 i (hsl i hi)) go3 gS.st (by rw [hlen, len0]) gq
    have lq : ∀ {tq : List Nat} {Zq : Addr → Prop} {Hq : Hp} {eq : En}, Go (k) tq σ2 Z1 H3 env2 Zq Hq eq → eq.length = env0.length := fun {tq Zq Hq eq} gq => by rw [gq.st.len, σl, len0]
    refine ⟨ew, Z1, env2, b, env3, gS.st, hif, fun Z4 H4 g4 => ?_⟩
    have nt : D ∉ k.tabs := g3.st.noTab hD3 fun _ z => by cases z
    have dk : ∀ {tq : List Nat} {Zq : Addr → Prop} {Hq : Hp} {eq : En}, Go (k) tq (wipe σ own) Z1 H3 (wipeE env1 own) Zq Hq eq → Hq D = some (.lst vs) ∧ ¬ Zq D ∧ ∀ i, ¬ OwnAt (wipe σ own) eq i D := fun {tq Zq Hq eq} gq => by
      refine ⟨gq.keep D _ hD3 nt fun i _ => no1 i, fun z => ?_, fun i ow => no1 i (gq.sub i D ow)⟩
      rcases gq.zn D z with w | w | ⟨j, w⟩
      · exact nz1 w
      · rw [hD3] at w; cases w
      · exact no1 j w
    rcases hl with ⟨rfl, hl⟩ | ⟨rfl, t5, env5, he5, hl⟩
    · refine iteF ?_
      have G4 := mkT g4
      obtain ⟨d1, d2, d3⟩ := dk G4
      refine ⟨Z4, env3, acc, vs, (g3.trans G4).mono fun i hi => ?_, lq g4, d1, RepAll.keep (G4.keepK g3.st) G4.zz _ (RepAll.keep kp3 (fun _ z => z) _ r1), d2, d3, hl⟩
      rcases List.mem_append.mp hi with w | w
      · exact w
      · rw [← htt]
        obtain ⟨w1, w2⟩ := List.mem_filter.mp w
        exact List.mem_filter.mpr ⟨List.mem_append_left _ w1, w2⟩
    · refine iteT ⟨Z4, env3, t5, env5, g4.st, he5, fun y Z6 H6 g6 r6 => ?_⟩
      have g46 := g4.trans g6
      have G6 := mkT g46
      have R6 : TRep (k) H3 Z6 H6 (wipe σ own) (wipeE env5 own) t5 y := (r6.t.back g4.there).wiped ew
      rcases hl with ⟨acc', hacc, hl⟩ | ⟨c, hacc, _⟩
      · have hacc : (match t5.d with
            | some d => if acc.length < SL then some (Acc.go (d :: acc)) else none
            | none => none) = some (.go acc') := hacc
        cases hd5 : t5.d with
        | none => rw [hd5] at hacc; cases hacc
        | some d5 =>
          rw [hd5] at hacc
          by_cases hsz : acc.length < SL
          · have hacc : (if acc.length < SL then some (Acc.go (d5 :: acc)) else none) = some (.go acc') := hacc
            rw [if_pos hsz] at hacc
            cases hacc
            obtain ⟨Z7, G7, R7, _⟩ := TRep.freeze G6 R6 hd5
            obtain ⟨d1, d2, d3⟩ := dk G7
            have hvl : vs.length = acc.length := by rw [← RepAll.len _ r1, List.length_reverse]
            have Gt : Go (k) tt (wipe σ own) Z0 H0 (wipeE env0 own) Z7 H6 (wipeE env5 own) := (g3.trans G7).mono fun i hi => by
              rcases List.mem_append.mp hi with w | w
              · exact w
              · rw [← htt]; exact w
            have rr : RepAll (k) Z7 H6 (d5 :: acc).reverse (vs ++ [y]) := by
              rw [List.reverse_cons]
              refine RepAll.append _ _ (RepAll.keep (G7.keepK g3.st) G7.zz _ (RepAll.keep kp3 (fun _ z => z) _ r1)) ?_
              simp only [RepAll]
              exact ⟨y, [], rfl, R7, rfl⟩
            refine ⟨vs, d1, by rw [hvl, ← sl_eq]; exact hsz, Z7, env5, d5 :: acc, vs ++ [y], Gt.write hD d1 d2 d3, lq g46, upd_same, RepAll.keep (Keep.write d1 d2) (fun _ z => z) _ rr, d2, d3, hl⟩
          · have hacc : (if acc.length < SL then some (Acc.go (d5 :: acc)) else none) = some (.go acc') := hacc
            rw [if_neg hsz] at hacc
            cases hacc
      · have hacc : (match t5.d with
            | some d => if acc.length < SL then some (Acc.go (d :: acc)) else none
            | none => none) = some (.stop c) := hacc
        split at hacc
        · split at hacc <;> cases hacc
        · cases hacc
  · have e : i = xs.length := by omega
    subst e
    rw [List.drop_length] at hl
    cases hl
    refine .inl ⟨hj.2 (Nat.le_refl _), ?_⟩
    have gO := Go.out g0.st g1 hlen fun i hi => by
      rw [← htt] at hi
      simpa using (List.mem_filter.mp hi).2
    have gA := g0.trans gO
    have tE : tou (.lc .list own g it' ifs' e') (.val vw) = tou it' .walk ++ tt := by rw [← htt]; rfl
    refine q _ Z1 H1 (by rw [tE]; exact gA) (XRep.nu ⟨D, rfl, ⟨vs, hD1, r1⟩, nz1, g0.there D hD, fun i ow => g0.st.nobody hD i (gO.sub i D ow)⟩)
section
variable {X : Cx} {tabs : List Addr} {cf : CF} {pos : Pos}
theorem lc_sl {kd : LK} {own : List Nat} {g : G} {it' ifs' e' : E} {md : Md} (ok : okE (.lc kd own g it' ifs' e') md = true) : okE it' .walk = true ∧ okE ifs' (.val true) = true ∧ okE e' (.val false) = true ∧ ∀ i, i ∉ own → i ∉ g.sl := by
  simp only [okE, Bool.and_eq_true, List.all_eq_true] at ok
  obtain ⟨ok1, ok2, ok3, ok4⟩ := ok
  exact ⟨ok1, ok2, ok3, fun i hi hm => hi (by have := ok4 i hm; simpa using this)⟩
theorem em_lc {elt tg iter : Expr} {ifs : List Expr} {scope : Scope} {ow : List (Str × Nat)} {g : G} {it' ifs' e' : E} (hc : X.calm = true) (hN : X.N.Nodup) (okb : BlkOk X.N X.env.scope scope ow) (hi : IM X tabs cf tg iter it')
    (hg : ∀ (s : Shared) (H : Hp) (C : Addr) (cl : List (Str × Addr)) (fp : List Addr), PG (X.blk s H scope (compEnvC scope cl C X.env) fp) tg (RdG (kx X tabs) g))
    (ht : ∀ (s : Shared) (H : Hp) (C : Addr) (cl : List (Str × Addr)) (fp : List Addr), TsM (X.blk s H scope (compEnvC scope cl C X.env) fp) tabs cf ifs ifs')
    (he : ∀ (s : Shared) (H : Hp) (C : Addr) (cl : List (Str × Addr)) (fp : List Addr), EM (X.blk s H scope (compEnvC scope cl C X.env) fp) tabs cf elt e')
    (hs : ∀ x, foldedSetIterable iter X.env x = pure x) : EM X tabs cf (.ListComp elt [⟨tg, iter, ifs, 0⟩] scope pos) (.lc .list (ow.map (·.2)) g it' ifs' e') := by
  refine ⟨fun vw ok => ?_⟩
  obtain ⟨ok1, ok2, ok3, hsl⟩ := lc_sl ok
  exact Sw.PE.weak (pe_lc (te := RdE (kx X tabs) cf e' false) (tt := RdTs (kx X tabs) cf ifs') hc hN (hi.run ok1) okb hg (fun s H C cl fp => (ht s H C cl fp).run ok2) (fun s H C cl fp => (he s H C cl fp).run false ok3) hs) fun σ H Q h => rd_lc hsl h
/-- x = [..] on one line -/
theorem sx_setLc {x : Str} {i : Nat} {px spos : Pos} {elt tg iter : Expr} {ifs : List Expr} {scope : Scope} {ow : List (Str × Nat)} {g : G} {it' ifs' e' : E} (hc : X.calm = true) (hN : X.N.Nodup) (hx : X.N[i]? = some x) (hxl : X.env.scope.names.lookup x = some .local)
    (hsw : swapsWith (.ListComp elt [⟨tg, iter, ifs, 0⟩] scope pos) (some (.Name x px)) spos.line X.env = pure true) (okb : BlkOk X.N X.env.scope scope ow) (hi : IM X tabs cf tg iter it')
    (hg : ∀ (s : Shared) (H : Hp) (C : Addr) (cl : List (Str × Addr)) (fp : List Addr), PG (X.blk s H scope (compEnvC scope cl C X.env) fp) tg (RdG (kx X tabs) g))
    (ht : ∀ (s : Shared) (H : Hp) (C : Addr) (cl : List (Str × Addr)) (fp : List Addr), TsM (X.blk s H scope (compEnvC scope cl C X.env) fp) tabs cf ifs ifs')
    (he : ∀ (s : Shared) (H : Hp) (C : Addr) (cl : List (Str × Addr)) (fp : List Addr), EM (X.blk s H scope (compEnvC scope cl C X.env) fp) tabs cf elt e')
    (hs : ∀ x, foldedSetIterable iter X.env x = pure x) : SX X tabs cf (.Assign [.Name x px] (.ListComp elt [⟨tg, iter, ifs, 0⟩] scope pos) spos) (.asg (.n i) (.lc .list (ow.map (·.2)) g it' ifs' e')) := by
  refine ⟨fun ok => ?_⟩
  obtain ⟨ok1, ok2, ok3, hsl⟩ := lc_sl (show okE (.lc .list (ow.map (·.2)) g it' ifs' e') (.val false) = true from ok)
  refine Sw.PS.weak (ps_setLc (te := RdE (kx X tabs) cf e' false) (tt := RdTs (kx X tabs) cf ifs') hc hN hx hxl hsw (hi.run ok1) okb hg (fun s H C cl fp => (ht s H C cl fp).run ok2) (fun s H C cl fp => (he s H C cl fp).run false ok3) hs) fun D σ H h => ?_
  obtain ⟨Z, env, fl, env', st, he, q⟩ := h
  obtain ⟨t, env1, he1, he⟩ := Res.bind_ok (show (ev cf (.lc .list (ow.map (·.2)) g it' ifs' e') false env).bind _ = _ from he)
  obtain ⟨e2, env2, he2, he⟩ := Res.bind_ok he
  cases he
  obtain ⟨hf, _⟩ := Res.of_ok he2
  refine rd_lc hsl ⟨Z, env, t, env1, st, he1, fun v Z1 H1 g1 r1 => q _ Z1 H1 (g1.s.store (t := t) (i := i) ?_ r1.t.r)⟩
  cases hp : put env1 i t with
  | none => rw [hp] at hf; cases hf
  | some e3 => rw [hp] at hf; cases hf; rfl
end
end Sw

set_option Elab.async false
set_option linter.all false
set_option maxRecDepth 100000
/-! Generators that expressions make: the run of one, turn by turn. -/
namespace Sw
open PySem PySem.Spec PyProof.Rows L2 GenW
section
variable {P : Program} {w : World} {A : Around} {elt tg iter : Expr} {ifs : List Expr} {scope : Scope} {pos : Pos} {it : Value} {cenv : Env}
abbrev gc1 (elt tg iter : Expr) (ifs : List Expr) (scope : Scope) (pos : Pos) (it : Value) (cenv : Env) : Code := .compLoop (.GeneratorExp elt [⟨tg, iter, ifs, 0⟩] scope pos) 0 it .none cenv
abbrev gc0 (elt tg iter : Expr) (ifs : List Expr) (scope : Scope) (pos : Pos) (it : Value) (cenv : Env) : Code := .compStart (.GeneratorExp elt [⟨tg, iter, ifs, 0⟩] scope pos) 0 it .none cenv
theorem over_gc1 : A.over (gc1 elt tg iter ifs scope pos it cenv) [] = A.deeper cenv := by
  obtain ⟨hd, d, fr, gs, u⟩ := A
  simp [Around.over, Around.deeper, marksOver, frameCount, unitsOf, envsOf, guardsOf, pushEnvs, pushGuards, Code.envs, Code.env?, Code.isFrame, Code.guards, Code.isGuard, Code.weight, Code.frames, Code.isCreation, Code.isCaller, Code.cUnits]
theorem over_gc0 : A.over (gc0 elt tg iter ifs scope pos it cenv) [] = A.deeper cenv := by
  obtain ⟨hd, d, fr, gs, u⟩ := A
  simp [Around.over, Around.deeper, marksOver, frameCount, unitsOf, envsOf, guardsOf, pushEnvs, pushGuards, Code.envs, Code.env?, Code.isFrame, Code.guards, Code.isGuard, Code.weight, Code.frames, Code.isCreation, Code.isCaller, Code.cUnits]
/-- its end: woken at s₀, over at s1 -/
abbrev gEnd (Fin : Shared → Shared → Prop) : GenEnd := fun _ s₀ r s1 => ((r = .ok (.ret .none) ∨ r = .ok .next) ∧ Fin s₀ s1) ∨ ∃ e, r = .error e ∧ False
/-- item j -/
abbrev gYld (n : Nat) (Core : Nat → Shared → Prop) (Mid : Nat → Shared → Value → Shared → Prop) : Protocol := fun m s₀ v s1 kap => ∃ j, n ≤ j + m ∧ j < n ∧ Mid j s₀ v s1 ∧ ∀ s', Core (j + 1) s' → kap (.send .none) s'
/-- a clause's tests, run -/
abbrev tsRun (ifs : List Expr) (cenv : Env) : Sem Bool := forIn ifs true fun c r => if r = true then do let ok ← isTrue c cenv (eval c cenv); pure (ForInStep.yield ok) else pure (ForInStep.yield r)
theorem seg_g {n : Nat} {Core : Nat → Shared → Prop} {Core2 : Shared → Nat → Shared → Prop} {Mid : Nat → Shared → Value → Shared → Prop} {Fin : Shared → Shared → Prop} (hco : cenv.scope.isCoroutine = false)
    (start : ∀ j s, Core j s → Core2 s j s)
    (turn : ∀ j s₀ s, j < n → Core2 s₀ j s → wpAny (model P w) (A.deeper cenv) (pyNext it) (fun r s1 => ∃ v, r = some v ∧ wpAny (model P w) (A.deeper cenv) (letOwnedTupleGo tg it v) (fun _ s2 => wpAny (model P w) (A.deeper cenv) (assign tg cenv v) (fun _ s3 =>
      wpAny (model P w) (A.deeper cenv) (tsRun ifs cenv) (fun ok s4 => (ok = false ∧ Core2 s₀ (j + 1) s4) ∨ (ok = true ∧ wpAny (model P w) (A.deeper cenv) (eval elt cenv) (fun y s5 => Mid j s₀ y s5) (fun _ _ => False) s4)) (fun _ _ => False) s3) (fun _ _ => False) s2) (fun _ _ => False) s1) (fun _ _ => False) s)
    (stop : ∀ s₀ s, Core2 s₀ n s → wpAny (model P w) (A.deeper cenv) (pyNext it) (fun r s1 => r = none ∧ Fin s₀ s1) (fun _ _ => False) s) :
    ∀ (d j k : Nat) (s₀ s : Shared), j + d = n → n ≤ j + k → Core2 s₀ j s → Seg (model P w) A (gEnd Fin) (gYld n Core Mid) (k + 1) s₀ (gc1 elt tg iter ifs scope pos it cenv) ((model P w).den (gc1 elt tg iter ifs scope pos it cenv)) [] s := by
  have hy : ∀ v, yieldOut cenv v = yieldValue v := fun v => by simp only [yieldOut, hco, Bool.false_eq_true, if_false]
  intro d
  induction d with
  | zero =>
    intro j k s₀ s hd hk hC
    obtain rfl : j = n := by omega
    show Seg _ A _ _ _ s₀ _ ((compTurn (.GeneratorExp elt [⟨tg, iter, ifs, 0⟩] scope pos) 0 it .none cenv).onRaise (leaving cenv)) [] s
    rw [compTurn_gen, Sem.onRaise_eq_wrap]
    refine seg_bind_wrap (wpAny_standAt ?_)
    refine seg_bind_wrap ?_
    rw [over_gc1]
    refine wpAny_mono (stop s₀ s hC) (fun r s1 hr => ?_) fun _ _ z => z.elim
    obtain ⟨rfl, hF⟩ := hr
    exact seg_end (.ok .next) (.inl ⟨.inr rfl, hF⟩)
  | succ d ih =>
    intro j k s₀ s hd hk hC
    show Seg _ A _ _ _ s₀ _ ((compTurn (.GeneratorExp elt [⟨tg, iter, ifs, 0⟩] scope pos) 0 it .none cenv).onRaise (leaving cenv)) [] s
    rw [compTurn_gen, Sem.onRaise_eq_wrap]
    refine seg_bind_wrap (wpAny_standAt ?_)
    refine seg_bind_wrap ?_
    rw [over_gc1]
    refine wpAny_mono (turn j s₀ s (by omega) hC) (fun r s1 hr => ?_) fun _ _ z => z.elim
    obtain ⟨v, rfl, h1⟩ := hr
    refine seg_bind_wrap ?_
    rw [over_gc1]
    refine wpAny_mono h1 (fun _ s2 h2 => ?_) fun _ _ z => z.elim
    refine seg_bind_wrap ?_
    rw [over_gc1]
    refine wpAny_mono h2 (fun _ s3 h3 => ?_) fun _ _ z => z.elim
    refine seg_bind_wrap ?_
    rw [over_gc1]
    refine wpAny_mono h3 (fun ok s4 h4 => ?_) fun _ _ z => z.elim
    rcases h4 with ⟨rfl, h4⟩ | ⟨rfl, h4⟩
    · simp only [Bool.false_eq_true, if_false]
      exact seg_again rfl (ih (j + 1) k s₀ s4 (by omega) (by omega) h4)
    · obtain ⟨k, rfl⟩ : ∃ k', k = k' + 1 := ⟨k - 1, by omega⟩
      simp only [if_true, hy]
      rw [Sem.bind_eq_wrap', Sem.bind_eq_wrap', Sem.wrap_wrap, Sem.wrap_wrap]
      refine seg_wrap ?_
      rw [over_gc1]
      refine wpAny_mono h4 (fun y s5 hM => ?_) fun _ _ z => z.elim
      refine seg_at (seg_yield rfl rfl rfl ⟨j, by omega, by omega, hM, fun s' hC' => ?_⟩)
      exact seg_again rfl (ih (j + 1) k s' s' (by omega) (by omega) (start _ _ hC'))
theorem seg_g0 {n k : Nat} {R : GenEnd} {Y : Protocol} {s : Shared} (hself : ∀ (Q : Value → Shared → Prop) (E : Value → Shared → Prop), Q it s → wpAny (model P w) (A.deeper cenv) (pyIter it) Q E s)
    (loop : Seg (model P w) A R Y k s (gc1 elt tg iter ifs scope pos it cenv) ((model P w).den (gc1 elt tg iter ifs scope pos it cenv)) [] s) :
    Seg (model P w) A R Y k s (gc0 elt tg iter ifs scope pos it cenv) ((model P w).den (gc0 elt tg iter ifs scope pos it cenv)) [] s := by
  show Seg _ A _ _ _ s _ ((compStart (.GeneratorExp elt [⟨tg, iter, ifs, 0⟩] scope pos) 0 it .none cenv).onRaise (leaving cenv)) [] s
  unfold compStart
  rw [Sem.onRaise_eq_wrap]
  show Seg _ A _ _ _ s _ ((ask >>= _).wrap _ _ _ _) [] s
  refine seg_bind_wrap (wpAny_askSetting ?_)
  split
  · exact seg_again rfl loop
  · first
      | (refine seg_bind_wrap (wpAny_rule (seg_bind_wrap (wpAny_standAt (seg_bind_wrap ?_)))); rw [over_gc0]; exact hself _ _ (seg_again rfl loop))
      | (refine seg_bind_wrap (wpAny_rule ?_)
         show Seg _ A _ _ _ s _ ((standAt iter.pos >>= _).wrap _ _ _ _) [] s
         refine seg_bind_wrap (wpAny_standAt (seg_bind_wrap ?_))
         rw [over_gc0]
         exact hself _ _ (seg_again rfl loop))
end
/-- asleep behind j items -/
def Slp (P : Program) (w : World) (A : Around) (n : Nat) (Core : Nat → Shared → Prop) (Mid : Nat → Shared → Value → Shared → Prop) (Fin : Shared → Shared → Prop) (gs : GenState) (k j : Nat) : Prop :=
  ∀ s, Core j s → gs.Goes (model P w) A.in1 (gEnd Fin) (gYld n Core Mid) (k + 1) (.send .none) s
section
variable {P : Program} {w : World} {A : Around} {n : Nat} {Core : Nat → Shared → Prop} {Mid : Nat → Shared → Value → Shared → Prop} {Fin : Shared → Shared → Prop} {gs : GenState} {k j g : Nat} {a : Addr} {s : Shared} {Q : Option Value → Shared → Prop} {E : Value → Shared → Prop}
theorem g_next (hh : A.handled = none) (hroom : A.depth < recursionLimit) (hl : s.heap.NoLimit) (hg : s.heap.IsGen a g) (hgs : s.gens[g]? = some gs) (hS : Slp P w A n Core Mid Fin gs k j) (hC : Core j (s.setGen g .running))
    (hI : ∀ i k' v s1 gs', k = k' + 1 → gs'.bare = true → g < s1.gens.size → Mid i (s.setGen g .running) v s1 → Slp P w A n Core Mid Fin gs' k' (i + 1) → Q (some v) (s1.setGen g gs'))
    (hD : ∀ s1, Fin (s.setGen g .running) s1 → ∀ h', (∀ b o, s1.heap.get? b = some o → h'.get? b = some o) → Q none { s1.setGen g .finished with heap := h' }) : wpAny (model P w) A (pyNext (.ref a)) Q E s := by
  have hgl : g < s.gens.size := (Array.getElem?_eq_some_iff.mp hgs).1
  refine wpAny_gsz (n := g + 1) hgl (next_genG (Er := fun _ _ => False) (F := fun _ s₀ s1 => Fin s₀ s1) hh hl hroom hg hgs (hS _ hC) (fun v s1 gs' hb hv => ?_) (fun s1 hp h' hk => ?_) fun e s1 he => he.elim)
  · intro hsz
    obtain ⟨i, h1, h2, hM, hk⟩ := hv
    have hs1 : g < s1.gens.size := by
      have q : (s1.setGen g gs').gens.size = s1.gens.size := setGen_size _ _ _
      have hsz' : g + 1 ≤ (s1.setGen g gs').gens.size := hsz
      omega
    have h1 : n ≤ i + k := h1
    obtain ⟨k', rfl⟩ : ∃ k', k = k' + 1 := ⟨k - 1, by omega⟩
    exact hI i k' v s1 gs' rfl hb hs1 hM fun s' hc => hk s' hc
  · exact fun _ => hD s1 hp h' hk
end
end Sw

set_option Elab.async false
set_option linter.all false
set_option maxRecDepth 100000
/-! Generators that expressions make: the frame, how one is made. -/
namespace Sw
open PySem PySem.Spec PyProof.Rows L2 GenW
/-- the frame of a generator: it is woken in A, it was made at s, H -/
abbrev gcx (X : Cx) (A : Around) (s : Shared) (H : Hp) (cenv : Env) (fp : List Addr) : Cx :=
  { X with A := A.deeper cenv, s_0 := s, H_0 := H, env := cenv, outer := X.stack, stack := cenv :: X.stack, ex := fp, fn := fun _ => false, calm := true, pn := [], xe := fun _ _ => False }
/-- its names -/
structure GScp (scope : Scope) : Prop where
  co : scope.isCoroutine = false
  nocell : ∀ y ∈ scope.names, y.2 ≠ .cell
  dot : scope.names.lookup (".0" : Str) = some NameKind.local
abbrev genv (X : Cx) (scope : Scope) (C : Addr) (code : Value) : Env := genEnv scope (cloFrom X.env.cells scope.names []) C code builtinsNs X.env
theorem gframe {X : Cx} {pins : List (Addr × Obj)} {σ : L2.St} {H : Hp} {s : Shared} {scope : Scope} {own : List (Str × Nat)} {fp : List Addr} {code it : Value} {A : Around} {go : Obj} {h' : Heap} {gens : Array GenState} {tk : Nat}
    (I : Inv X pins σ H s) (ok : BlkOk X.N X.env.scope scope own) (gk : GScp scope) (hN : X.N.Nodup) (hfp : ∀ b ∈ fp, FpOk X pins H b ∧ b < s.heap.objs.size) (hA : A.frames = some X.stack) (hh : A.handled = none)
    (hn : h'.Ns s.heap.objs.size (fun y => if y = ".0" then some it else none)) (hsb : Heap.SameBut s.heap.objs.size (s.heap.push { cls := .type "frame", data := .dict #[] }) h') (hgo : ∀ h : Heap, (h.push go).get? h.objs.size = some go) (hgd : ∀ v, go.data ≠ .cell v) (hb : AllBare gens) :
    Inv (gcx X A s H (genv X scope s.heap.objs.size code) fp) [(h'.objs.size, go)] (wipe σ (own.map (·.2))) H { s with gens := gens, toks := tk, heap := h'.push go } := by
  have hfree : ∀ y ∈ scope.names, y.2 = .free → ∃ c, X.env.cells.lookup y.1 = some c := fun y hy e => by
    rcases ok.free y hy e with q | q
    · exact I.ok.has _ (.inl q)
    · exact I.ok.has _ (.inr q)
  generalize hce : genv X scope s.heap.objs.size code = cenv
  have ksz : h'.objs.size = s.heap.objs.size + 1 := by rw [hsb.1, Heap.size_push]
  have kp0 : ∀ b o, s.heap.get? b = some o → h'.get? b = some o := fun b o e => hsb.extBut b o (Nat.ne_of_lt (Heap.lt_size e)) (Heap.get?_push_of_some _ e)
  have kp : ∀ b o, s.heap.get? b = some o → (h'.push go).get? b = some o := fun b o e => Heap.get?_push_of_some _ (kp0 b o e)
  have hL : cenv.locals = s.heap.objs.size := by rw [← hce]; rfl
  have hcl : cenv.cells = cloFrom X.env.cells scope.names [] := by rw [← hce]; rfl
  have hsc : cenv.scope = scope := by rw [← hce]; rfl
  have cm : ∀ {y c}, cenv.cells.lookup y = some c → X.env.cells.lookup y = some c ∧ c < s.heap.objs.size := fun {y c} e => by
    rw [hcl] at e
    rcases cloFrom_mem (PySem.mem_of_lookup e) with q | ⟨q1, rfl⟩
    · cases q
    · obtain ⟨c, hc⟩ := hfree _ q1 rfl
      rw [hc]
      obtain ⟨u, z⟩ := I.cell _ _ hc
      exact ⟨rfl, z.lt⟩
  have look : ∀ {y}, scope.names.lookup y = some .free → ∃ c, cenv.cells.lookup y = some c ∧ X.env.cells.lookup y = some c := fun {y} hl => by
    obtain ⟨c, e⟩ := mem_lookup (cloFrom_has (cells := X.env.cells) (acc := []) (PySem.mem_of_lookup hl))
    rw [← hcl] at e
    exact ⟨c, e, (cm e).1⟩
  have stk : ∀ b ∈ frs X.stack, b < s.heap.objs.size := fun b hb => by
    obtain ⟨_, o, ho, _⟩ := I.stack.mem hb
    exact Heap.lt_size ho
  refine ⟨⟨I.ok.mod, by show cenv.scope.kind = _; rw [hsc]; exact ok.kind, by show cenv.globals = _; rw [← hce]; exact I.ok.glob, by show cenv.builtins = _; rw [← hce]; rfl, by show _ ≤ cenv.locals; rw [hL]; exact Nat.le_refl _,
      fun y z c e1 e2 => I.ok.inj y z c (cm e1).1 (cm e2).1, fun y hy => ?_, (fun y c z e => by cases z), fun _ => hh, Around.frames_deeper hA, .inr ⟨rfl, by show cenv.frame = some cenv.locals; rw [← hce]; rfl⟩,
      fun b hb => ⟨?_, fun y c e z => ?_⟩, I.bs, Nat.le_trans I.ok.bsz I.sz, fun b o e hb => ?_, fun b hb z => ?_, I.stack, I.stkFree⟩,
    rfl, hb, Un.kept kp, ⟨fun y => if y = ".0" then some it else none, ?_, fun i y v e1 e2 e3 => ?_⟩, fun y c e => ?_, ?_, fun y c e => I.freeC y c (cm e).1, fun p hp => ?_, I.hok.kept kp, by rw [wipe_length]; exact I.len⟩
  · have hy : scope.names.lookup y = some .cell ∨ scope.names.lookup y = some .free := by
      have hy : cenv.kindOf y = some .cell ∨ cenv.kindOf y = some .free := hy
      unfold Env.kindOf at hy
      rw [hsc] at hy
      exact hy
    rcases hy with hy | hy
    · exact absurd rfl (gk.nocell _ (PySem.mem_of_lookup hy))
    · obtain ⟨c, q, _⟩ := look hy
      exact ⟨c, q⟩
  · show b ≠ cenv.locals
    rw [hL]; exact Nat.ne_of_lt (hfp b hb).2
  · exact (hfp b hb).1.2.2.2.2.1 y c (cm e).1 z
  · rcases (hfp b hb).1.2.2.2.1 with z | z
    · exact I.ok.noex b o e z
    · exact absurd (Nat.lt_of_lt_of_le (Heap.lt_size e) (Nat.le_trans I.ok.bsz z)) (Nat.lt_irrefl _)
  · rcases List.mem_cons.mp (I.stkSub b z) with z | z
    · exact (hfp b hb).1.2.1 z
    · exact (hfp b hb).1.2.2.1 z
  · show (h'.push go).Ns cenv.locals _
    rw [hL]
    exact hn.keeps fun b o e => Heap.get?_push_of_some _ e
  · obtain ⟨e2, hne⟩ := wipe_some e2
    have e3 : Vis scope y := by rw [← hsc]; exact e3
    have no : ∀ kd, scope.names.lookup y = some kd → ¬ (kd = .local ∨ kd = .cell) := fun kd e hh => by
      rcases ok.own _ (PySem.mem_of_lookup e) hh with e' | e'
      · obtain ⟨p, hp, hpy⟩ := List.mem_map.mp e'
        have q := ok.ix p hp
        have hpy : p.1 = y := hpy
        rw [hpy] at q
        exact hne (List.mem_map.mpr ⟨p, hp, nodup_ix hN q e1⟩)
      · exact e' (List.mem_of_getElem? e1)
    have hfr : scope.names.lookup y = some .free := by
      rcases e3 with e3 | e3 | e3
      · exact absurd (.inl rfl) (no _ e3)
      · exact absurd (.inr rfl) (no _ e3)
      · exact e3
    obtain ⟨m, _, hl⟩ := I.loc
    have hvis : Vis X.env.scope y := (ok.free _ (PySem.mem_of_lookup hfr) rfl).elim (fun q => .inr (.inl q)) (fun q => .inr (.inr q))
    obtain ⟨u, r, q⟩ := hl i y v e1 e2 hvis
    obtain ⟨c, h1, h2⟩ := look hfr
    refine ⟨u, r, .inr ⟨.inr (by show cenv.scope.names.lookup y = _; rw [hsc]; exact hfr), c, h1, ?_⟩⟩
    rcases q with ⟨q, _⟩ | ⟨_, c', e', z⟩
    · have q : X.env.scope.names.lookup y = some .local := q
      rcases ok.free _ (PySem.mem_of_lookup hfr) rfl with k' | k' <;> rw [show X.env.scope.names.lookup y = _ from k'] at q <;> cases q
    · rw [h2] at e'
      cases e'
      exact z.keeps kp
  · obtain ⟨u, z⟩ := I.cell y c (cm e).1
    exact ⟨u, z.keeps kp⟩
  · show H cenv.locals = none
    rw [hL]; exact I.hok.fresh (Nat.le_refl _)
  · have hp : p = (h'.objs.size, go) := by
      have hp : p ∈ ([] : List (Addr × Obj)) ++ [(h'.objs.size, go)] := hp
      simpa using hp
    subst hp
    refine ⟨hgo h', I.hok.fresh (by show _ ≤ h'.objs.size; omega), ?_, fun z => ?_, hgd⟩
    · show h'.objs.size ≠ cenv.locals
      rw [hL, ksz]
      exact Nat.succ_ne_self _
    · have := stk _ z
      rw [ksz] at this
      have this : s.heap.objs.size + 1 < s.heap.objs.size := this
      omega
/-- what a new generator is like -/
def GNew (X : Cx) (pins : List (Addr × Obj)) (σ : L2.St) (H : Hp) (tg elt iter : Expr) (ifs : List Expr) (scope : Scope) (pos : Pos) (own : List Nat) (J : It) (a : Addr) (s5 : Shared) : Prop :=
  ∃ (s4 : Shared) (C : Addr) (code : Value) (fp : List Addr) (it : Addr) (tn : Nat → Heap → Prop) (go : Obj) (g : Nat), Inv X pins σ H s4 ∧ (∀ b ∈ fp, FpOk X pins H b ∧ b < s4.heap.objs.size) ∧ Turn X.prog X.w X.K tg J fp it tn ∧ tn 0 s5.heap ∧ s5.gens[g]? = some (.fresh (gc0 elt tg iter ifs scope pos (.ref it) (genv X scope C code))) ∧
    s4.heap.objs.size < a ∧ (∀ h : Heap, h.get? a = some go → h.IsGen a g) ∧ (∀ v, go.data ≠ .cell v) ∧ a < s5.heap.objs.size ∧ (∀ b ∈ fp, b ≠ a) ∧
    ∀ A : Around, A.frames = some X.stack → A.handled = none → Inv (gcx X A s4 H (genv X scope C code) fp) [(a, go)] (wipe σ own) H s5
theorem mk_gen {X : Cx} {pins : List (Addr × Obj)} {σ : L2.St} {H : Hp} {s : Shared} {c P : Addr} {elt tg iter : Expr} {ifs : List Expr} {scope : Scope} {own : List (Str × Nat)} {pos : Pos} {wi : TI} {l : Nat} {Q' : Value → Shared → Prop} {R : It → Hp → Prop}
    (hr : Room l X.A) (TB : GxR.TabB X.base X.mg c P) (hcode : X.env.code = .ref c) (ok : BlkOk X.N X.env.scope scope own) (gk : GScp scope) (hN : X.N.Nodup) (hi : PI X tg iter wi) (hs : ∀ v, genFold iter X.env v = pure v)
    (I : Inv X pins σ H s) (h : wi σ H fun J H1 => GxR.TabG H1 P ∧ R J H1)
    (hQ : ∀ J H1 H2 a s5, R J H1 → GxR.Tabbed P H1 H2 → (∀ p ∈ X.pn ++ pins, p.1 ≠ a) → GNew X pins σ H2 tg elt iter ifs scope pos (own.map (·.2)) J a s5 → Q' (.ref a) s5) :
    wpAny (model X.prog X.w) X.A (eval (.GeneratorExp elt [⟨tg, iter, ifs, 0⟩] scope pos) X.env) Q' X.xe s := by
  have hfree : ∀ y ∈ scope.names, y.2 = .free → ∃ c, X.env.cells.lookup y.1 = some c := fun y hy e => by
    rcases ok.free y hy e with q | q
    · exact I.ok.has _ (.inl q)
    · exact I.ok.has _ (.inr q)
  refine wpAny_GeneratorExp_make gk.co (closure_ok hfree) gk.nocell gk.dot ok.kind (by have := hr.dp; omega) ?_ hs
  refine thn (hi.run pins s σ H _ I h) fun xv s1 hx => thn hx fun itv s2 h2 => ?_
  obtain ⟨it, fp, tn, J, H2, e, I2, T, st2, f2, ⟨ps, hP, hto⟩, q⟩ := h2
  subst e
  refine ⟨I2.nolimit, ?_⟩
  have hPs : s2.heap.get? P = some { cls := .none, data := .fields ps } := I2.hok P _ hP
  have hPlt : P < s2.heap.objs.size := Heap.lt_size hPs
  have cd : PySem.W.CodeHd s2.heap c P := TB.code.keeps fun b u e => I2.bk b u e
  have sz : ∀ b ∈ fp, b < s2.heap.objs.size := fun b hb => by
    obtain ⟨o, e, _⟩ := T.obj _ _ st2 b hb
    exact Heap.lt_size e
  have fpP : ∀ b ∈ fp, b ≠ P := fun b hb z => by
    have q := (f2 b hb).1
    rw [z, hP] at q
    cases q
  have cont : ∀ (code : Value) (h3 : Heap) (tk : Nat) (ps' : Array Value), Heap.ExtBut P s2.heap h3 → s2.heap.objs.size ≤ h3.objs.size → h3.get? P = some { cls := .none, data := .fields ps' } → (∃ more, ps' = ps ++ more) → TriplesOk ps'.toList →
      wpAny (model X.prog X.w) X.A (builtinsFor X.env.globals X.env.builtins) (fun bi s₄ =>
        ∀ h', h'.Ns s₄.heap.objs.size (fun y => if y = ".0" then some (Value.ref it) else none) → Heap.SameBut s₄.heap.objs.size (s₄.heap.push { cls := .type "frame", data := .dict #[] }) h' →
          Q' (.ref h'.objs.size) { s₄ with
            gens := s₄.gens.push (.fresh (.compStart (.GeneratorExp elt [⟨tg, iter, ifs, 0⟩] scope pos) 0 (Value.ref it) .none (genEnv scope (cloFrom X.env.cells scope.names []) s₄.heap.objs.size code bi X.env))),
            toks := s₄.toks + 1 + 1 + 1,
            heap := h'.push { cls := .type "generator", data := .fields #[.int s₄.gens.size 0, .str "<genexpr>" (s₄.toks + 1), .str (X.env.qual ++ "<genexpr>") (s₄.toks + 1 + 1)] } }) X.xe { s2 with heap := h3, toks := tk } := by
    intro code h3 tk ps' hx hsz hP3 hmore ht3
    obtain ⟨bm, ob, e1, e2, e3, e4, e5, e6, e7, e8⟩ := TB.bm
    have keep3 : ∀ b u, b ≠ P → s2.heap.get? b = some u → h3.get? b = some u := fun b u hb e => hx b u hb e
    refine wpAny_builtinsFor (m := X.mg) (by rw [I2.ok.glob]; exact (I2.mod.glob.keeps I2.bk).extBut hx TB.gP) e1 e2 (keep3 _ _ e4 (I2.bk _ _ e5)) e6 e7 e8 ?_
    obtain ⟨more, em⟩ := hmore
    have J4 := GxR.inv_tab (more := more) (h' := h3) (g' := s2.gens) (d' := s2.drawn) (t' := tk) I2 hP keep3 (by rw [← em]; exact hP3) I2.bare
    intro h' hn hsb
    have ksz : h'.objs.size = h3.objs.size + 1 := by rw [hsb.1, Heap.size_push]
    have kp0 : ∀ b o, h3.get? b = some o → h'.get? b = some o := fun b o e => hsb.extBut b o (Nat.ne_of_lt (Heap.lt_size e)) (Heap.get?_push_of_some _ e)
    have f4 : ∀ b ∈ fp, FpOk X pins (upd H2 P (.tbl (ps ++ more))) b ∧ b < h3.objs.size := fun b hb => ⟨⟨by rw [upd_ne (fpP b hb)]; exact (f2 b hb).1, (f2 b hb).2⟩, Nat.lt_of_lt_of_le (sz b hb) hsz⟩
    have lt_a : ∀ b, b < h3.objs.size → b ≠ h'.objs.size := fun b hb => by rw [ksz]; exact Nat.ne_of_lt (Nat.lt_succ_of_lt hb)
    refine hQ J H2 (upd H2 P (.tbl (ps ++ more))) h'.objs.size _ q ⟨⟨_, upd_same, by rw [← em]; exact ht3⟩, fun b hb => upd_ne hb⟩ (fun p hp => lt_a _ (Heap.lt_size (J4.pin p hp).1)) ⟨{ s2 with heap := h3, toks := tk }, h3.objs.size, code, fp, it, tn, ({ cls := .type "generator", data := .fields #[.int (s2.gens.size : Int) 0, .str "<genexpr>" (tk + 1), .str (X.env.qual ++ "<genexpr>") (tk + 1 + 1)] } : Obj), s2.gens.size, J4, f4, T, ?_, Array.getElem?_push_size .., ?_,
      fun h e => ⟨_, _, _, e, rfl, rfl, rfl⟩, (fun v q => by cases q), ?_, fun b hb => lt_a b (f4 b hb).2, fun A hA hh => ?_⟩
    · refine T.keep _ _ _ st2 fun b hb o e => Heap.get?_push_of_some _ (kp0 b o (keep3 b o (fpP b hb) e))
    · show h3.objs.size < h'.objs.size
      rw [ksz]; exact Nat.lt_succ_self _
    · show _ < (h'.push _).objs.size
      rw [Heap.size_push]; exact Nat.lt_succ_self _
    · exact gframe J4 ok gk hN f4 hA hh hn hsb (fun h => Heap.get?_push_size _ rfl) (fun v q => by cases q) (AllBare.push I2.bare rfl)
  cases hf : codeAmong pos ps.toList with
  | none =>
    refine wpAny_genexprCodeX hcode (cd.code hPs hto) (cd.tab hPs) hf fun c' h' tk hx hge hlt hco' _ htab' _ => ?_
    obtain ⟨o1, vs, f1, tf, fl, tg', inF, tx, tt, op, _, _, _, _, _, _, _, _, _, htr, _⟩ := hco'
    exact cont _ h' tk _ hx (Nat.le_trans hge (Nat.le_of_lt hlt)) htab'.2 ⟨_, rfl⟩ htr
  | some cv =>
    refine wpAny_genexprCode_hit hcode (cd.code hPs hto) hf ?_
    exact cont cv s2.heap s2.toks ps (Heap.ExtBut.refl _ _) (Nat.le_refl _) hPs ⟨#[], by simp⟩ hto
end Sw

set_option Elab.async false
set_option linter.all false
set_option maxRecDepth 100000
/-! Generators that expressions make: their turns beside the small language. -/
namespace Sw
open PySem PySem.Spec PyProof.Rows L2 GenW
abbrev Ow := List (Addr × Obj)
def OwAt (ps : Ow) (s : Shared) : Prop := ∀ p ∈ ps, s.heap.get? p.1 = some p.2
/-- all that is fixed of a generator and its asker -/
structure GX where
  X : Cx
  tabs : List Addr
  A : Around
  s4 : Shared
  H4 : Hp
  C : Addr
  code : Value
  fp : List Addr
  it : Addr
  tn : Nat → Heap → Prop
  J : It
  tg : Expr
  elt : Expr
  iter : Expr
  ifs : List Expr
  scope : Scope
  pos : Pos
  a : Addr
  go : Obj
  σ : L2.St
  own : List Nat
  cf : CF
  kd : LK
  g : G
  fs : E
  e : E
  xs : List D
  Z0 : Addr → Prop
  env0 : En
  t : T
  envF : En
  Mem : Ow → List D → (Addr → Prop) → Hp → Prop
namespace GX
abbrev cenv (S : GX) : Env := genv S.X S.scope S.C S.code
abbrev Y (S : GX) : Cx := gcx S.X S.A S.s4 S.H4 S.cenv S.fp
abbrev k (S : GX) : Kx := kx S.X S.tabs
abbrev tt (S : GX) : List Nat := (tou S.fs (.val true) ++ tou S.e (.val false)).filter fun i => !S.own.contains i
abbrev loop (S : GX) (j : Nat) (acc : List D) (env : En) : Prop := lcLoop S.kd S.own S.g (ifsR S.cf S.fs) (fun env => ev S.cf S.e false env) (S.xs.drop j) acc env = .ok S.t S.envF
/-- between turns -/
structure At (S : GX) (ps : Ow) (s : Shared) (H : Hp) (Z : Addr → Prop) (env : En) (acc : List D) : Prop where
  inv : Inv S.Y ((S.a, S.go) :: ps) (wipe S.σ S.own) H s
  fpn : ∀ b ∈ S.fp, H b = none
  ow : ∀ p ∈ ps, S.s4.heap.objs.size ≤ p.1 ∧ p.1 ≠ S.a ∧ p.1 ∉ S.fp
  gg : Go S.k S.tt (wipe S.σ S.own) S.Z0 S.H4 (wipeE S.env0 S.own) Z H (wipeE env S.own)
  len : env.length = S.env0.length
  mem : S.Mem ps acc Z H
def Core (S : GX) (j : Nat) (s : Shared) : Prop := ∃ ps H Z env acc, S.At ps s H Z env acc ∧ S.tn j s.heap ∧ S.loop j acc env
/-- within a turn that began at s₀ -/
def Core2 (S : GX) (s₀ : Shared) (j : Nat) (s : Shared) : Prop := ∃ ps H Z env acc, OwAt ps s₀ ∧ S.At ps s H Z env acc ∧ S.tn j s.heap ∧ S.loop j acc env
def Mid (S : GX) (j : Nat) (s₀ : Shared) (v : Value) (s1 : Shared) : Prop := ∃ ps H Z env acc t1 x, OwAt ps s₀ ∧ S.At ps s1 H Z env acc ∧ S.tn (j + 1) s1.heap ∧ RelV x v ∧ TRep S.k S.H4 Z H (wipe S.σ S.own) (wipeE env S.own) t1 x ∧
  ((∃ acc', accStep S.kd acc t1 = some (.go acc') ∧ S.loop (j + 1) acc' env) ∨ ∃ c, accStep S.kd acc t1 = some (.stop c) ∧ S.t = .im (.bl c) ∧ S.envF = env)
def Fin (S : GX) (s₀ s1 : Shared) : Prop := ∃ ps H Z env acc, OwAt ps s₀ ∧ S.At ps s1 H Z env acc ∧ accEnd S.kd acc = some S.t ∧ S.envF = env
/-- what is known of it -/
structure Ok (S : GX) : Prop where
  I4 : ∃ pins, Inv S.X pins S.σ S.H4 S.s4
  T : Turn S.X.prog S.X.w S.X.K S.tg S.J S.fp S.it S.tn
  J : JOk S.k S.Z0 S.H4 S.J S.xs
  st : StOk S.k S.Z0 S.H4 (wipe S.σ S.own) (wipeE S.env0 S.own)
  pg : PG S.Y S.tg (RdG S.k S.g)
  pt : PTs S.Y S.ifs (RdTs S.k S.cf S.fs)
  pe : PE S.Y S.elt (RdE S.k S.cf S.e false)
  sl : ∀ i, i ∉ S.own → i ∉ S.g.sl
  len : S.env0.length = S.σ.length
  mono : ∀ ps acc Z H Z' H', S.Mem ps acc Z H → Keep Z H H' → (∀ a, Z a → Z' a) → S.Mem ps acc Z' H'
  fa : ∀ b ∈ S.fp, b ≠ S.a
theorem At.fpOk {S : GX} {ps : Ow} {s s' : Shared} {H H' : Hp} {Z : Addr → Prop} {env : En} {acc : List D} (h : S.At ps s H Z env acc) (o : S.Ok) (hn : ∀ b ∈ S.fp, H' b = none) : ∀ b ∈ S.fp, FpOk S.Y ((S.a, S.go) :: ps) H' b := fun b hb => by
  refine ⟨hn b hb, (h.inv.ok.exf b hb).1, h.inv.ok.exfs b hb, .inl hb, fun x c e => (h.inv.ok.exf b hb).2 x c e, fun p hp => ?_⟩
  have hp : p ∈ (S.a, S.go) :: ps := hp
  rcases List.mem_cons.mp hp with z | z
  · rw [z]; exact Ne.symm (o.fa b hb)
  · exact fun e => (h.ow p z).2.2 (by rw [e]; exact hb)
theorem start2 {S : GX} (j : Nat) (s : Shared) (h : S.Core j s) : S.Core2 s j s := by
  obtain ⟨ps, H, Z, env, acc, hA, htn, hl⟩ := h
  exact ⟨ps, H, Z, env, acc, fun p hp => (hA.inv.pin p (List.mem_append_right _ (List.mem_cons_of_mem _ hp))).1, hA, htn, hl⟩
theorem turn {S : GX} (o : S.Ok) (j : Nat) (s₀ s : Shared) (hj : j < S.xs.length) (hC : S.Core2 s₀ j s) :
    wpAny (model S.X.prog S.X.w) (S.A.deeper S.cenv) (pyNext (.ref S.it)) (fun r s1 => ∃ v, r = some v ∧ wpAny (model S.X.prog S.X.w) (S.A.deeper S.cenv) (letOwnedTupleGo S.tg (.ref S.it) v) (fun _ s2 => wpAny (model S.X.prog S.X.w) (S.A.deeper S.cenv) (assign S.tg S.cenv v) (fun _ s3 =>
      wpAny (model S.X.prog S.X.w) (S.A.deeper S.cenv) (tsRun S.ifs S.cenv) (fun ok s4 => (ok = false ∧ S.Core2 s₀ (j + 1) s4) ∨ (ok = true ∧ wpAny (model S.X.prog S.X.w) (S.A.deeper S.cenv) (eval S.elt S.cenv) (fun y s5 => S.Mid j s₀ y s5) (fun _ _ => False) s4)) (fun _ _ => False) s3) (fun _ _ => False) s2) (fun _ _ => False) s1) (fun _ _ => False) s := by
  obtain ⟨ps, H, Z, env, acc, hO, hA, htn, hl⟩ := hC
  have hjk := o.J Z H hA.gg.zz (hA.gg.keepK o.st) j
  have hd : S.xs[j]? = some S.xs[j] := List.getElem?_eq_getElem hj
  obtain ⟨hgo, hy⟩ := hjk.1 _ hd
  unfold loop at hl
  rw [List.drop_eq_getElem_cons hj] at hl
  obtain ⟨env1, b, env2, hgv, hif, hl⟩ := lcLoop_cons hl
  have ti := o.T.item S.Y rfl rfl rfl rfl j ((S.a, S.go) :: ps) s _ H (fun _ _ => False) hA.inv (hA.fpOk (s' := s) o hA.fpn) htn hgo
  refine wpAny_mono ti (fun r s6 hr => ?_) fun _ _ z => z
  obtain ⟨u, rfl, h6⟩ := hr
  refine ⟨u, rfl, wpAny_mono h6 (fun _ s7 h7 => ?_) fun _ _ z => z⟩
  obtain ⟨x, H7, I7, r7, y7, st7, n7⟩ := h7
  have I7' := I7.pinned (hA.fpOk (s' := s7) o n7) (o.T.obj _ _ st7)
  obtain ⟨hH7, hrep⟩ := hy x H7 y7
  have g7 : Go S.k S.tt (wipe S.σ S.own) S.Z0 S.H4 (wipeE S.env0 S.own) Z H7 (wipeE env S.own) ∧ Keep Z H H7 := by
    rcases hH7 with rfl | ⟨p, ho, hp0, rfl⟩
    · exact ⟨hA.gg, .refl⟩
    · exact ⟨hA.gg.new hp0, .new hp0⟩
  obtain ⟨go1, go2, go3⟩ := give_out hgv
  have rdg : RdG S.k S.g x (wipe S.σ S.own) H7 (fun σ2 H2 => wipe σ2 S.own = wipe S.σ S.own ∧ RdTs S.k S.cf S.fs σ2 H2 fun b' H8 =>
      (b' = false ∧ ∃ Z8, Go S.k S.tt (wipe S.σ S.own) S.Z0 S.H4 (wipeE S.env0 S.own) Z8 H8 (wipeE env2 S.own) ∧ env2.length = S.env0.length ∧ S.Mem ps acc Z8 H8 ∧ S.loop (j + 1) acc env2) ∨
      (b' = true ∧ ∃ t1 env3, ((∃ acc', accStep S.kd acc t1 = some (.go acc') ∧ S.loop (j + 1) acc' env3) ∨ ∃ c, accStep S.kd acc t1 = some (.stop c) ∧ S.t = .im (.bl c) ∧ S.envF = env3) ∧ RdE S.k S.cf S.e false σ2 H8 fun y H9 => ∃ Z9, Go S.k S.tt (wipe S.σ S.own) S.Z0 S.H4 (wipeE S.env0 S.own) Z9 H9 (wipeE env3 S.own) ∧ env3.length = S.env0.length ∧ S.Mem ps acc Z9 H9 ∧
      TRep S.k S.H4 Z9 H9 (wipe S.σ S.own) (wipeE env3 S.own) t1 y)) := by
    refine ⟨Z, wipeE env S.own, _, env1, g7.1.st, hrep, hgv, fun σ2 gS hσ => ?_⟩
    have hσ2 : ∀ i, i ∉ S.own → σ2[i]? = S.σ[i]? := fun i hi => by rw [hσ i (o.sl i hi), wipe_ne hi]
    have l2 : env1.length = env.length := by rw [go2, wipeE_len]
    have σl : σ2.length = S.σ.length := by rw [← gS.st.len, l2, hA.len, o.len]
    have ew : wipe σ2 S.own = wipe S.σ S.own := wipe_eq σl hσ2
    refine ⟨ew, Z, env1, b, env2, gS.st, hif, fun Z8 H8 g8 => ?_⟩
    rcases hl with ⟨rfl, hl⟩ | ⟨rfl, t1, env3, hev, hl⟩
    · have G8 := Go.turn (own := S.own) hσ2 l2 (fun i hi => go1 i (o.sl i hi)) go3 gS.st (by rw [hA.len, o.len]) g8
      have gt := (g7.1.trans G8).mono (u := S.tt) fun i hi => (List.mem_append.mp hi).elim (fun z => z) fun z => by
        obtain ⟨w1, w2⟩ := List.mem_filter.mp z
        exact List.mem_filter.mpr ⟨List.mem_append_left _ w1, w2⟩
      exact .inl ⟨rfl, Z8, gt, by rw [g8.st.len, σl, o.len], o.mono _ _ _ _ _ _ (o.mono _ _ _ _ _ _ hA.mem g7.2 fun _ z => z) (G8.keepK g7.1.st) G8.zz, hl⟩
    · refine .inr ⟨rfl, t1, env3, hl, Z8, env2, t1, env3, g8.st, hev, fun y Z9 H9 g9' r9 => ?_⟩
      have g9 := g8.trans g9'
      have G9 := Go.turn (own := S.own) hσ2 l2 (fun i hi => go1 i (o.sl i hi)) go3 gS.st (by rw [hA.len, o.len]) g9
      have gt := (g7.1.trans G9).mono (u := S.tt) fun i hi => (List.mem_append.mp hi).elim (fun z => z) fun z => z
      refine ⟨Z9, gt, by rw [g9.st.len, σl, o.len], o.mono _ _ _ _ _ _ (o.mono _ _ _ _ _ _ hA.mem g7.2 fun _ z => z) (G9.keepK g7.1.st) G9.zz, ?_⟩
      exact (((r9.t.back g8.there).back (H0 := S.H4) g7.1.there)).wiped ew
  refine wpAny_mono (o.pg.run _ s7 _ H7 x u _ I7' r7 rdg) (fun _ s8 h8 => ?_) fun _ _ z => z
  obtain ⟨σ8, H8, I8, ew, q8⟩ := h8
  have wl : (wipe S.σ S.own).length = σ8.length := by
    have := congrArg List.length ew
    rw [wipe_length, wipe_length] at this
    rw [wipe_length]; exact this.symm
  have ws : ∀ i v, (wipe S.σ S.own)[i]? = some (some v) → σ8[i]? = some (some v) := fun i v e => by
    rw [← ew] at e
    exact (wipe_some e).1
  refine wpAny_mono (o.pt.run _ s8 σ8 H8 _ I8 q8) (fun ok s9 h9 => ?_) fun _ _ z => z
  obtain ⟨H9, I9, h9⟩ := h9
  rcases h9 with ⟨rfl, Z9, g9, l9, m9, hl9⟩ | ⟨rfl, t1, env3, hl9, q9⟩
  · refine .inl ⟨rfl, ps, H9, Z9, env2, acc, hO, ⟨(I9.unpinned (pins := (S.a, S.go) :: ps)).weak wl ws, fun b hb => ?_, hA.ow, g9, l9, m9⟩, ?_, hl9⟩
    · obtain ⟨ob, e, _⟩ := o.T.obj _ _ st7 b hb
      exact (I9.pin (b, ob) (List.mem_append_right _ (List.mem_append_right _ (mem_pinsAt hb e)))).2.1
    · exact o.T.keep _ _ _ st7 fun b hb ob e => (I9.pin (b, ob) (List.mem_append_right _ (List.mem_append_right _ (mem_pinsAt hb e)))).1
  · refine .inr ⟨rfl, wpAny_mono (o.pe.run _ s9 σ8 H9 _ I9 q9) (fun z s10 h10 => ?_) fun _ _ z => z⟩
    obtain ⟨y, H10, I10, r10, Z10, g10, l10, m10, t10⟩ := h10
    refine ⟨ps, H10, Z10, env3, acc, t1, y, hO, ⟨(I10.unpinned (pins := (S.a, S.go) :: ps)).weak wl ws, fun b hb => ?_, hA.ow, g10, l10, m10⟩, ?_, r10, t10, hl9⟩
    · obtain ⟨ob, e, _⟩ := o.T.obj _ _ st7 b hb
      exact (I10.pin (b, ob) (List.mem_append_right _ (List.mem_append_right _ (mem_pinsAt hb e)))).2.1
    · exact o.T.keep _ _ _ st7 fun b hb ob e => (I10.pin (b, ob) (List.mem_append_right _ (List.mem_append_right _ (mem_pinsAt hb e)))).1
theorem stop {S : GX} (o : S.Ok) (s₀ s : Shared) (hC : S.Core2 s₀ S.xs.length s) : wpAny (model S.X.prog S.X.w) (S.A.deeper S.cenv) (pyNext (.ref S.it)) (fun r s1 => r = none ∧ S.Fin s₀ s1) (fun _ _ => False) s := by
  obtain ⟨ps, H, Z, env, acc, hO, hA, htn, hl⟩ := hC
  have hjk := o.J Z H hA.gg.zz (hA.gg.keepK o.st) S.xs.length
  have td := o.T.done S.Y rfl rfl rfl rfl S.xs.length ((S.a, S.go) :: ps) s _ H (fun _ _ => False) hA.inv (hA.fpOk (s' := s) o hA.fpn) htn (hjk.2 (Nat.le_refl _))
  refine wpAny_mono td (fun r s6 hr => ?_) fun _ _ z => z
  obtain ⟨rfl, I6⟩ := hr
  unfold loop at hl
  rw [List.drop_length] at hl
  obtain ⟨h1, h2⟩ := Res.of_ok (show Res.of (accEnd S.kd acc) env = .ok S.t S.envF from hl)
  exact ⟨rfl, ps, H, Z, env, acc, hO, ⟨I6, hA.fpn, hA.ow, hA.gg, hA.len, hA.mem⟩, h1, h2⟩
/-- it sleeps, fresh -/
theorem fresh {S : GX} (o : S.Ok) (hco : S.scope.isCoroutine = false) {A : Around} (hA : A.in1 = S.A) : Slp S.X.prog S.X.w A S.xs.length S.Core S.Mid S.Fin (.fresh (gc0 S.elt S.tg S.iter S.ifs S.scope S.pos (.ref S.it) S.cenv)) S.xs.length 0 := fun s hC => by
  rw [hA]
  refine ⟨rfl, seg_g0 (n := S.xs.length) (fun Q E q => ?_) (seg_g hco (start2 (S := S)) (turn o) (stop o) S.xs.length 0 S.xs.length s s (by omega) (by omega) (start2 _ _ hC))⟩
  obtain ⟨ps, H, Z, env, acc, hA, htn, hl⟩ := hC
  exact o.T.self _ 0 s Q E htn q
theorem At.regen {S : GX} {ps : Ow} {s s' : Shared} {H : Hp} {Z : Addr → Prop} {env : En} {acc : List D} (h : S.At ps s H Z env acc) (h1 : s'.os = s.os) (h2 : s'.heap = s.heap) (h3 : AllBare s'.gens) : S.At ps s' H Z env acc :=
  ⟨h.inv.call' (ch := []) h1 (by rw [h2]; exact Un.kept fun _ _ e => e) (by rw [h2]; exact h.inv.hok) h3 (fun b z => by simp at z), h.fpn, h.ow, h.gg, h.len, h.mem⟩
theorem At.bare {S : GX} {ps : Ow} {s : Shared} {H : Hp} {Z : Addr → Prop} {env : En} {acc : List D} (h : S.At ps s H Z env acc) : AllBare s.gens := h.inv.bare
/-- the asker writes its own object -/
theorem At.write {S : GX} {p : Addr} {ob ob' : Obj} {ps : Ow} {s s' : Shared} {H : Hp} {Z Z' : Addr → Prop} {env : En} {acc acc' : List D} (h : S.At [(p, ob)] s H Z env acc) (h1 : s'.os = s.os) (h2 : ∀ b o, b ≠ p → s.heap.get? b = some o → s'.heap.get? b = some o) (h3 : AllBare s'.gens) (h4 : s'.heap.get? p = some ob') (h5 : ∀ v, ob'.data ≠ .cell v)
    (g' : Go S.k S.tt (wipe S.σ S.own) S.Z0 S.H4 (wipeE S.env0 S.own) Z' H (wipeE env S.own)) (hm : S.Mem [(p, ob')] acc' Z' H) : S.At [(p, ob')] s' H Z' env acc' := by
  obtain ⟨q1, q2, q3, q4, q5⟩ := h.inv.pin (p, ob) (List.mem_append_right _ (List.mem_cons_of_mem _ (List.mem_singleton.mpr rfl)))
  obtain ⟨w1, w2, w3⟩ := h.ow (p, ob) (List.mem_singleton.mpr rfl)
  have I0 : Inv S.Y [(S.a, S.go)] (wipe S.σ S.own) H s := h.inv.pins_of fun p hp => h.inv.pin p (List.mem_append_right _ (List.mem_cons.mpr (.inl (List.mem_singleton.mp hp))))
  have ncell : ∀ x c, S.Y.env.cells.lookup x = some c → c ≠ p := fun x c e z => by
    obtain ⟨v, o, ho, hd⟩ := h.inv.cell x c e
    rw [z] at ho
    have q1 : s.heap.get? p = some ob := q1
    rw [ho] at q1
    cases q1
    exact q5 v hd
  have I1 : Inv S.Y [(S.a, S.go)] (wipe S.σ S.own) H { s with heap := s'.heap, toks := s'.toks } := I0.turned (it := p) h2 q2 q3 (.inr w1) ncell fun r hr => by
    have hr : r ∈ [(S.a, S.go)] := hr
    rw [List.mem_singleton.mp hr]
    exact Ne.symm w2
  have I2 : Inv S.Y [(S.a, S.go)] (wipe S.σ S.own) H s' := I1.call' (ch := []) h1 (Un.kept fun _ _ e => e) I1.hok h3 (fun b z => by simp at z)
  refine ⟨I2.pins_of fun r hr => ?_, h.fpn, fun r hr => ?_, g', h.len, hm⟩
  · rcases List.mem_cons.mp hr with z | z
    · exact I2.pin r (List.mem_append_right _ (by rw [z]; exact List.mem_singleton.mpr rfl))
    · rw [List.mem_singleton.mp z]
      exact ⟨h4, q2, q3, q4, h5⟩
  · rw [List.mem_singleton.mp hr]
    exact ⟨w1, w2, w3⟩
/-- objects are kept, more may stand -/
theorem At.kept {S : GX} {ps : Ow} {s s' : Shared} {H : Hp} {Z : Addr → Prop} {env : En} {acc : List D} (h : S.At ps s H Z env acc) (h1 : s'.os = s.os) (h2 : ∀ b o, s.heap.get? b = some o → s'.heap.get? b = some o) (h3 : AllBare s'.gens) : S.At ps s' H Z env acc :=
  ⟨h.inv.call' (ch := []) h1 (Un.kept h2) (h.inv.hok.kept h2) h3 (fun b z => by simp at z), h.fpn, h.ow, h.gg, h.len, h.mem⟩
/-- back in the asker's own frame -/
theorem At.back {S : GX} {pins ps : Ow} {s : Shared} {H : Hp} {Z : Addr → Prop} {env : En} {acc : List D} (h : S.At ps s H Z env acc) (I4 : Inv S.X pins S.σ S.H4 S.s4) (hf : ∀ b ∈ S.fp, FpOk S.X pins S.H4 b) : Inv S.X pins S.σ H s :=
  I4.call' (ch := S.fp) h.inv.os h.inv.base h.inv.hok h.inv.bare fun b hb => ⟨(hf b hb).2.2.2.1, (hf b hb).2.1, (hf b hb).2.2.2.2.1, (hf b hb).2.2.2.2.2⟩
end GX
end Sw

set_option Elab.async false
set_option linter.all false
set_option maxRecDepth 100000
/-! Generators that expressions make: those who ask them. -/
namespace Sw
open PySem PySem.Spec PyProof.Rows L2 GenW
theorem Keep.trans {Z Z1 : Addr → Prop} {H H1 H2 : Hp} (a : Keep Z H H1) (hz : ∀ x, Z x → Z1 x) (b : Keep Z1 H1 H2) : Keep Z H H2 :=
  ⟨fun x _ h => b.tup x _ (a.tup x _ h), fun x _ _ h => b.frz x _ _ (a.frz x _ _ h), fun x _ z h => b.lst x _ (hz x z) (a.lst x _ z h)⟩
theorem JOk.up {k : Kx} {Z Z1 : Addr → Prop} {H H1 : Hp} {J : It} {xs : List D} (h : JOk k Z H J xs) (kp : Keep Z H H1) (hz : ∀ x, Z x → Z1 x) : JOk k Z1 H1 J xs := fun Z2 H2 h1 h2 i => h Z2 H2 (fun a z => h1 a (hz a z)) (kp.trans hz h2) i
theorem Keep.tab {Z : Addr → Prop} {H H1 : Hp} {P : Addr} (t0 : GxR.TabG H P) (t : GxR.Tabbed P H H1) : Keep Z H H1 := by
  have ne : ∀ a u, H a = some u → (∀ l, u ≠ .tbl l) → H1 a = some u := fun a u e h => by
    rw [t.2 a fun z => ?_]; exact e
    obtain ⟨ps, q, _⟩ := t0
    rw [z, q] at e
    exact h ps (Option.some.inj e).symm
  refine ⟨fun a _ e => ne a _ e (fun _ q => by cases q), fun a _ _ e => ne a _ e (fun _ q => by cases q), fun a _ _ e => ne a _ e (fun _ q => by cases q)⟩
theorem Go.tabbed {k : Kx} {t : List Nat} {σ : L2.St} {Z Z1 : Addr → Prop} {H H1 H2 : Hp} {env env1 : En} {P : Addr} (g : Go k t σ Z H env Z1 H1 env1) (hP : P ∈ k.tabs) (tb : GxR.Tabbed P H1 H2) : Go k t σ Z H env Z1 H2 env1 := by
  have t0 := g.st.tab P hP
  have nn : ∀ a, H1 a = none → a ≠ P := fun a e z => by
    obtain ⟨ps, q, _⟩ := t0
    rw [z, q] at e; cases e
  refine ⟨g.zz, g.zn, fun a o h ht hn => ?_, fun a h => ?_, g.unt, g.sub, g.lent, g.st.keepK (Keep.tab t0 tb) (fun _ z => z) (fun i a ow => ?_) (fun P' hP' => ?_) fun a z => ?_⟩
  · rw [tb.2 a fun z => ht (z ▸ hP)]
    exact g.keep a o h ht hn
  · have na : a ≠ P := fun z => by
      obtain ⟨ps, q, _⟩ := tb.1
      rw [z, q] at h; cases h
    rw [tb.2 a na] at h
    exact g.there a h
  · obtain ⟨h1, h2⟩ := g.st.noOwn ow
    refine ⟨tb.2 a fun z => ?_, h1⟩
    obtain ⟨ps, q, _⟩ := t0
    rw [z] at h2
    rcases h2 with ⟨_, h2⟩ | ⟨_, _, h2⟩ <;> rw [q] at h2 <;> cases h2
  · by_cases e : P' = P
    · rw [e]; exact tb.1
    · obtain ⟨ps, q, r⟩ := g.st.tab P' hP'
      exact ⟨ps, by rw [tb.2 _ e]; exact q, r⟩
  · by_cases e : a = P
    · rw [e]
      obtain ⟨ps, q, _⟩ := tb.1
      rw [q]; simp
    · rw [tb.2 _ e]; exact g.st.zh a z
/-- a generator that is ready to be asked -/
structure GReady (gb : Bool) (S : GX) (pins : Ow) (s5 : Shared) (g l : Nat) (Q : VK) : Prop where
  ok : ∀ (A : Around) (M : Ow → List D → (Addr → Prop) → Hp → Prop), A.frames = some S.X.stack → A.handled = none → Room l (A.deeper S.cenv) → GdOk gb A →
    (∀ ps acc Z H Z' H', M ps acc Z H → Keep Z H H' → (∀ a, Z a → Z' a) → M ps acc Z' H') → GX.Ok { S with A := A, Mem := M }
  inv : ∀ A : Around, A.frames = some S.X.stack → A.handled = none → Inv (gcx S.X A S.s4 S.H4 S.cenv S.fp) [(S.a, S.go)] (wipe S.σ S.own) S.H4 s5
  I4 : Inv S.X pins S.σ S.H4 S.s4
  fpk : ∀ b ∈ S.fp, FpOk S.X pins S.H4 b ∧ b < S.s4.heap.objs.size
  tn0 : S.tn 0 s5.heap
  gs : s5.gens[g]? = some (.fresh (gc0 S.elt S.tg S.iter S.ifs S.scope S.pos (.ref S.it) S.cenv))
  gen : ∀ h : Heap, h.get? S.a = some S.go → h.IsGen S.a g
  lt4 : S.s4.heap.objs.size < S.a
  lt5 : S.a < s5.heap.objs.size
  co : S.scope.isCoroutine = false
  st : StOk S.k S.Z0 S.H4 S.σ S.env0
  loop0 : lcLoop S.kd S.own S.g (ifsR S.cf S.fs) (fun env => ev S.cf S.e false env) S.xs [] S.env0 = .ok S.t S.envF
  out : ∀ v Z' H', Go S.k S.tt S.σ S.Z0 S.H4 S.env0 Z' H' (unwipeE S.env0 S.envF S.own) → (∀ d, S.t = .im d → Rep S.k Z' H' d v) → (∃ d, S.t = .im d) → Q v H'
section
variable {X : Cx} {tabs : List Addr} {cf : CF} {pos : Pos}
theorem gx_ready {gb : Bool} {kd : LK} {vw : Bool} {pins : Ow} {σ : L2.St} {H : Hp} {s : Shared} {c P : Addr} {elt tg iter : Expr} {ifs : List Expr} {scope : Scope} {ow : List (Str × Nat)} {g : G} {it' f' e' : E} {l l0 : Nat} {Q : VK} {Q' : Value → Shared → Prop}
    (hr : Room l0 X.A) (TB : GxR.TabB X.base X.mg c P) (hP : P ∈ tabs) (hcode : X.env.code = .ref c) (okb : BlkOk X.N X.env.scope scope ow) (gk : GScp scope) (hN : X.N.Nodup) (hi : IM X tabs cf tg iter it') (hs : ∀ v, genFold iter X.env v = pure v)
    (hg : ∀ (A : Around) (s : Shared) (H : Hp) (C : Addr) (code : Value) (fp : List Addr), PG (gcx X A s H (genv X scope C code) fp) tg (RdG (kx X tabs) g))
    (hf : ∀ (A : Around) (s : Shared) (H : Hp) (C : Addr) (code : Value) (fp : List Addr), Room l (A.deeper (genv X scope C code)) → GdOk gb A → TsM (gcx X A s H (genv X scope C code) fp) tabs cf ifs f')
    (he : ∀ (A : Around) (s : Shared) (H : Hp) (C : Addr) (code : Value) (fp : List Addr), Room l (A.deeper (genv X scope C code)) → GdOk gb A → EM (gcx X A s H (genv X scope C code) fp) tabs cf elt e')
    (okE0 : okE (.lc kd (ow.map (·.2)) g it' f' e') (.val vw) = true) (I : Inv X pins σ H s) (h : RdE (kx X tabs) cf (.lc kd (ow.map (·.2)) g it' f' e') vw σ H Q)
    (hQ : ∀ (S : GX) (s5 : Shared) (g0 : Nat), S.X = X → S.σ = σ → S.kd = kd → GReady gb S pins s5 g0 l Q → Q' (.ref S.a) s5) :
    wpAny (model X.prog X.w) X.A (eval (.GeneratorExp elt [⟨tg, iter, ifs, 0⟩] scope pos) X.env) Q' X.xe s := by
  obtain ⟨ok1, ok2, ok3, hsl⟩ := lc_sl okE0
  obtain ⟨Z, env, t, env', st, hev, q⟩ := h
  rw [ev_lc] at hev
  obtain ⟨xs, env0, h0, hev⟩ := Res.bind_ok hev
  obtain ⟨t1, envF, hl0, hev⟩ := Res.bind_ok hev
  cases hev
  refine mk_gen (R := fun J H1 => ∃ Z0, Go (kx X tabs) (tou it' .walk) σ Z H env Z0 H1 env0 ∧ JOk (kx X tabs) Z0 H1 J xs) hr TB hcode okb gk hN (hi.run ok1) hs I ⟨Z, env, xs, env0, st, h0, fun J Z0 H0 g0 hJ => ⟨g0.st.tab P hP, Z0, g0, hJ⟩⟩ fun J H1 H2 a s5 hR hT hpa hnew => ?_
  obtain ⟨Z0, g0, hJ⟩ := hR
  have t0 := g0.st.tab P hP
  have g2 := g0.tabbed hP hT
  have hJ2 : JOk (kx X tabs) Z0 H2 J xs := hJ.up (Keep.tab t0 hT) fun _ z => z
  obtain ⟨s4, C, code, fp, it, tn, go, gi, I4, hfp, T, st5, hgs, ha, hgen, hgd, halt, hfa, hY⟩ := hnew
  refine hQ ⟨X, tabs, X.A, s4, H2, C, code, fp, it, tn, J, tg, elt, iter, ifs, scope, pos, a, go, σ, ow.map (·.2), cf, kd, g, f', e', xs, Z0, env0, t, envF, fun _ _ _ _ => True⟩ s5 gi rfl rfl rfl
    ⟨fun A M hA hh hrm hgg hM => ⟨⟨pins, I4⟩, T, hJ2, g2.st.wipe, hg A s4 H2 C code fp, (hf A s4 H2 C code fp hrm hgg).run ok2, (he A s4 H2 C code fp hrm hgg).run false ok3, hsl, g2.st.len, hM, hfa⟩, hY, I4, hfp, st5, hgs, hgen, ha, halt, gk.co, g2.st, hl0, fun v Z' H' gg hr1 hr2 => ?_⟩
  obtain ⟨d, hd⟩ := hr2
  have hd : t = .im d := hd
  subst hd
  refine q v Z' H' (g2.trans gg) (XRep.im (hr1 d rfl))
end
namespace GX
/-- the asker's own object is made -/
theorem At.start {S : GX} {p : Addr} {ob : Obj} {s5 s' : Shared} (I : Inv S.Y [(S.a, S.go)] (wipe S.σ S.own) S.H4 s5) (o : S.Ok) (hfp : ∀ b ∈ S.fp, b < S.s4.heap.objs.size) (hfn : ∀ b ∈ S.fp, S.H4 b = none) (h1 : s'.os = s5.os) (h2 : ∀ b o, s5.heap.get? b = some o → s'.heap.get? b = some o) (h3 : AllBare s'.gens) (h4 : s'.heap.get? p = some ob) (h5 : s5.heap.objs.size ≤ p)
    (h6 : ∀ v, ob.data ≠ .cell v) (hm : S.Mem [(p, ob)] [] S.Z0 S.H4) : S.At [(p, ob)] s' S.H4 S.Z0 S.env0 [] := by
  have I1 : Inv S.Y [(S.a, S.go)] (wipe S.σ S.own) S.H4 s' := I.call' (ch := []) h1 (Un.kept h2) (I.hok.kept h2) h3 (fun b z => by simp at z)
  have ha := Heap.lt_size (I.pin (S.a, S.go) (List.mem_append_right _ (List.mem_singleton.mpr rfl))).1
  have h8 : S.s4.heap.objs.size ≤ s5.heap.objs.size := I.sz
  refine ⟨I1.pins_of fun r hr => ?_, hfn, fun r hr => ?_, Go.refl o.st, rfl, hm⟩
  · rcases List.mem_cons.mp hr with z | z
    · exact I1.pin r (List.mem_append_right _ (by rw [z]; exact List.mem_singleton.mpr rfl))
    · rw [List.mem_singleton.mp z]
      exact ⟨h4, I.hok.fresh h5, Nat.ne_of_gt (Nat.lt_of_lt_of_le I.lt h5), I.nofs h5, h6⟩
  · rw [List.mem_singleton.mp hr]
    refine ⟨Nat.le_trans h8 h5, Nat.ne_of_gt (Nat.lt_of_lt_of_le ha h5), fun z => ?_⟩
    exact absurd (Nat.lt_of_lt_of_le (hfp p z) (Nat.le_trans h8 h5)) (Nat.lt_irrefl _)
end GX
end Sw

set_option Elab.async false
set_option linter.all false
set_option maxRecDepth 100000
/-! tuple(.. for ..) -/
namespace Sw
open PySem PySem.Spec PyProof.Rows L2 GenW
open AutoSeq1 (wpAny_loadPart')
section
variable {P : Program} {w : World} {A : Around} {E : Value → Shared → Prop} {s : Shared} {a : Addr}
theorem call_tuple_col {Q : Value → Shared → Prop} (hT : s.TypeIs (.ref a) "generator")
    (h : wpAny (model P w) A.in1.in1 (collect (.ref a)) (fun l s' => l.length ≤ sizeLine ∧ Q (.ref s'.heap.objs.size) { s' with heap := s'.heap.push { cls := .type "tuple", data := .seq l.toArray } }) E s) : wpAny (model P w) A (call (.type "tuple") [.ref a]) Q E s := by
  have step : codeAny (model P w) A.in1 (.call (.builtin "tuple.__new__") ⟨[.type "tuple", .ref a], []⟩) (wants (fun obj s1 => s1.TypeIs obj "tuple" ∧ Q obj s1) E) s := by
    refine codeAny_of_tree ?_
    show wpAny _ A.in1.in1 (do checkBuiltinCall "tuple.__new__" ⟨[.type "tuple", .ref a], []⟩; again (.builtin "tuple.__new__" ⟨[.type "tuple", .ref a], []⟩)) _ _ s
    refine wpAny_bind (wpAny_of_eq (F.newCall_tuple_1 _) (wpAny_pure ⟨plainId_quiet F.plain_tuple_new _, codeAny_builtin F.entry_tuple_new ?_⟩))
    rw [Around.under_plainId F.plain_tuple_new _]
    have q1 := sub_tuple_self
    have q2 := init_tuple_lookup
    have q3 := madeHere_tuple
    wp_walk using wpAny_typeOf hT, wpAny_mono h
    · intro l s' hl
      obtain ⟨hl1, hl2⟩ := hl
      show wpAny _ _ (Builtin.Tuple.tupleExact l.toArray >>= fun v => ret v) _ _ _
      unfold Builtin.Tuple.tupleExact
      refine wpAny_bind (wpAny_newObj_type ?_ (by show l.toArray.size ≤ sizeLine; rw [List.size_toArray]; exact hl1))
      exact wpAny_pure ⟨⟨_, Heap.get?_push_size _ rfl, rfl⟩, hl2⟩
    · intro e s' he
      exact he
  refine callType_codes (Q₁ := fun obj s1 => s1.TypeIs obj "tuple" ∧ Q obj s1) F.called_tuple (F.typeCall_tuple_1 _) F.entry_object_init step fun obj s1 h1 => ?_
  exact ⟨h1.1, F.args_object_init_2 obj _, object_init_meets F.called_tuple.init.lookup F.called_tuple.made (by decide) P w A.in1 _ s1 ⟨h1.1, rfl, h1.2⟩⟩
end
end Sw

set_option Elab.async false
set_option linter.all false
set_option maxRecDepth 100000
/-! tuple(.. for ..): the loop. -/
namespace Sw
open PySem PySem.Spec PyProof.Rows L2 GenW
/-- what stands in the list that is filled -/
def memT (k : Kx) (p : Addr) : Ow → List D → (Addr → Prop) → Hp → Prop := fun ps acc Z H => ∃ (us : Array Value) (c : Nat) (vs : List V), ps = [(p, lstObj us c)] ∧ Vals vs us.toList ∧ RepAll k Z H acc.reverse vs ∧ us.size ≤ sizeLine
theorem memT_mono {k : Kx} {p : Addr} : ∀ ps acc Z H Z' H', memT k p ps acc Z H → Keep Z H H' → (∀ a, Z a → Z' a) → memT k p ps acc Z' H' := fun ps acc Z H Z' H' ⟨us, c, vs, e, v, r, z⟩ kp hz => ⟨us, c, vs, e, v, RepAll.keep kp hz _ r, z⟩
theorem setGen_bare {s : Shared} {g : Nat} {x : GenState} (h : AllBare s.gens) (hx : x.bare = true) : AllBare (s.setGen g x).gens := allBare_setGen h hx
theorem setGen_get {s : Shared} {g : Nat} {x : GenState} (h : g < s.gens.size) : (s.setGen g x).gens[g]? = some x := L2.setGen_at h
theorem drainT {S : GX} (o : S.Ok) (hkd : S.kd = .tuple) {p : Addr} (hM : S.Mem = memT S.k p) {A : Around} (hA : A.in1.in1 = S.A) (hh : A.handled = none) (hroom : A.depth < recursionLimit) {g : Nat} (hgen : ∀ h : Heap, h.get? S.a = some S.go → h.IsGen S.a g) {res : Value} {R : Result → Shared → Prop}
    (hend : ∀ s' H Z env acc us c vs, S.At [(p, lstObj us c)] s' H Z env acc → Vals vs us.toList → RepAll S.k Z H acc.reverse vs → S.t = .im (.tup acc.reverse) → S.envF = env → R (.ok (.ret res)) s') :
    ∀ (k j : Nat) (s : Shared) (gs : GenState), s.gens[g]? = some gs → Slp S.X.prog S.X.w A.in1 S.xs.length S.Core S.Mid S.Fin gs k j → (∃ H Z env acc us c, S.At [(p, lstObj us c)] s H Z env acc ∧ S.tn j s.heap ∧ S.loop j acc env) →
      codeAny (model S.X.prog S.X.w) A (.builtin "list.extend.loop" ⟨[.ref p, .ref S.a, res], []⟩) R s := by
  intro k
  induction k using Nat.strongRecOn with
  | _ k ih =>
    intro j s gs hgs hS ⟨H, Z, env, acc, us, c, hAt, htn, hl⟩
    have hgo := (hAt.inv.pin (S.a, S.go) (List.mem_append_right _ List.mem_cons_self)).1
    refine codeAny_builtin F.entry_extend_loop ?_
    rw [Around.under_plainId F.plain_extend_loop _]
    show wpAny _ A.in1 (pyNext (.ref S.a) >>= _) _ _ s
    refine wpAny_bind (g_next hh hroom hAt.inv.nolimit (hgen _ hgo) hgs hS ⟨_, H, Z, env, acc, hAt.regen rfl rfl (setGen_bare hAt.bare rfl), htn, hl⟩ (fun j k' v s1 gs' ek hb hsz hMid hS' => ?_) fun s1 hF h' hk => ?_)
    rotate_left
    · obtain ⟨ps, H1, Z1, env1, acc1, hO, hAt1, hE, hv⟩ := hF
      have hm := hAt1.mem
      rw [hM] at hm
      obtain ⟨us1, c1, vs1, rfl, hv1, hr1, _⟩ := hm
      rw [hkd] at hE
      have hE : some (T.im (.tup acc1.reverse)) = some S.t := hE
      exact wpAny_pure (hend _ H1 Z1 env1 acc1 us1 c1 vs1 (hAt1.kept rfl hk (setGen_bare hAt1.bare rfl)) hv1 hr1 (Option.some.inj hE).symm hv)
    obtain ⟨ps, H1, Z1, env1, acc1, t1, x, hO, hAt1, htn1, rx, rt, hl1⟩ := hMid
    have hm := hAt1.mem
    rw [hM] at hm
    obtain ⟨us1, c1, vs1, rfl, hv1, hr1, _⟩ := hm
    rw [hkd] at hl1
    rcases hl1 with ⟨acc', hacc, hl1⟩ | ⟨b, hacc, _⟩
    · have hacc : (match t1.d with
          | some d => if acc1.length < SL then some (Acc.go (d :: acc1)) else none
          | none => none) = some (.go acc') := hacc
      split at hacc
      · rename_i d hd
        split at hacc
        · rename_i hsl
          cases hacc
          obtain ⟨Z2, g2, r2, hz2⟩ := TRep.freeze hAt1.gg rt hd
          have hus : us1.size = acc1.length := by
            rw [← Array.length_toList, ← hv1.length, ← RepAll.len _ hr1, List.length_reverse]
          have hszl : us1.size < sizeLine := by rw [hus, ← sl_eq]; exact hsl
          have hS1 : s1.heap.get? p = some (lstObj us1 c1) := (hAt1.inv.pin (p, lstObj us1 c1) (List.mem_append_right _ (List.mem_cons_of_mem _ (List.mem_singleton.mpr rfl)))).1
          show wpAny _ A.in1 (updateSeq p (·.push v) >>= _) _ _ _
          refine wpAny_bind ?_
          refine wpAny_updateSeq hS1 rfl (wpAny_pure ⟨plainId_quiet F.plain_extend_loop _, ?_⟩) (Nat.le_of_lt hszl) (by show (us1.push v).size ≤ sizeLine + 1; rw [Array.size_push]; omega)
          have keep3 : ∀ b ob, b ≠ p → s1.heap.get? b = some ob → (s1.heap.update p (Obj.mapSeq (·.push v))).get? b = some ob := fun b ob hbS e => (Heap.get?_update_other _ _ (Ne.symm hbS)).trans e
          obtain ⟨c3, hp3⟩ : ∃ c3, (s1.heap.update p (Obj.mapSeq (·.push v))).get? p = some (lstObj (us1.push v) c3) := ⟨_, Heap.get?_update_self (Obj.mapSeq (·.push v)) hS1 rfl⟩
          have rr : RepAll S.k Z2 H1 (d :: acc1).reverse (vs1 ++ [x]) := by
            rw [List.reverse_cons]
            refine RepAll.append _ _ (RepAll.keep .refl hz2 _ hr1) ?_
            simp only [RepAll]
            exact ⟨x, [], rfl, r2, rfl⟩
          have vv : Vals (vs1 ++ [x]) (us1.push v).toList := by
            rw [Array.toList_push]
            exact hv1.append (.cons rx .nil)
          refine ih k' (by omega) (j + 1) { s1.setGen g gs' with heap := s1.heap.update p (Obj.mapSeq (·.push v)) } gs' (setGen_get hsz) hS' ⟨H1, Z2, env1, d :: acc1, us1.push v, c3, ?_, ?_, hl1⟩
          · exact hAt1.write (ps := []) rfl keep3 (setGen_bare hAt1.bare hb) hp3 (fun v q => by cases q) g2 (by rw [hM]; exact ⟨us1.push v, c3, vs1 ++ [x], rfl, vv, rr, by rw [Array.size_push]; omega⟩)
          · refine o.T.keep _ _ _ htn1 fun b hb ob e => keep3 b ob (fun z => ?_) e
            exact (hAt1.ow (p, lstObj us1 c1) (List.mem_singleton.mpr rfl)).2.2 (z ▸ hb)
        · cases hacc
      · cases hacc
    · have hacc : (match t1.d with
          | some d => if acc1.length < SL then some (Acc.go (d :: acc1)) else none
          | none => none) = some (.stop b) := hacc
      split at hacc
      · split at hacc <;> cases hacc
      · cases hacc
/-- all items -/
theorem collect_g {gb : Bool} {S : GX} {pins : Ow} {s5 : Shared} {g l : Nat} {Q : VK} (Rd : GReady gb S pins s5 g l Q) (hkd : S.kd = .tuple) {A : Around} (hAf : A.frames = some S.X.stack) (hh : A.handled = none) (hroom : A.depth < recursionLimit) (hrm : Room l (A.in1.in1.deeper S.cenv)) (hgd : GdOk gb A) {E : Value → Shared → Prop} {Q' : List Value → Shared → Prop}
    (hQ : ∀ us s' H Z env acc vs p c, (GX.At { S with A := A.in1.in1, Mem := memT S.k p } [(p, lstObj us c)] s' H Z env acc) → Vals vs us.toList → RepAll S.k Z H acc.reverse vs → S.t = .im (.tup acc.reverse) → S.envF = env → Q' us.toList s') :
    wpAny (model S.X.prog S.X.w) A (collect (.ref S.a)) Q' E s5 := by
  have I5 := Rd.inv A.in1.in1 hAf hh
  have hgo : s5.heap.get? S.a = some S.go := (I5.pin (S.a, S.go) (List.mem_append_right _ (List.mem_singleton.mpr rfl))).1
  have hIG : s5.heap.IsGen S.a g := Rd.gen _ hgo
  have hpa : s5.heap.objs.size ≠ S.a := Nat.ne_of_gt Rd.lt5
  unfold collect
  refine wpAny_bind (wpAny_runValue (codeAny_builtin F.entry_proto_collect ?_))
  rw [Around.under_plainId F.plain_proto_collect _]
  show wpAny _ A.in1 (newList [] >>= fun z => again (.builtin "list.__iadd__" ⟨[z, .ref S.a], []⟩)) _ _ s5
  refine wpAny_bind (wpAny_newObj_type ?_)
  refine wpAny_pure ⟨plainId_quiet F.plain_list_iadd _, codeAny_builtin F.entry_list_iadd ?_⟩
  rw [Around.under_plainId F.plain_list_iadd _]
  generalize hp : s5.heap.objs.size = p at hpa ⊢
  have k1 : ∀ b ob, s5.heap.get? b = some ob → (s5.heap.push { cls := .type "list", data := .seq ([] : List Value).toArray }).get? b = some ob := fun b ob e => Heap.get?_push_of_some _ e
  have hp1 : (s5.heap.push { cls := .type "list", data := .seq ([] : List Value).toArray }).get? p = some { cls := .type "list", data := .seq ([] : List Value).toArray } := by rw [← hp]; exact Heap.get?_push_size _ rfl
  have gty : ∀ {h : Heap}, (∀ b ob, s5.heap.get? b = some ob → h.get? b = some ob) → h.IsGen S.a g := fun {h} q => hIG.keeps q
  show wpAny _ A.in1 (Builtin.List.listExtendWith (.ref p) (.ref S.a) (.ref p)) _ _ _
  unfold Builtin.List.listExtendWith
  refine wpAny_bind (wpAny_typeOf (Heap.IsGen.typeIs (s := { s5 with heap := _ }) (gty k1)) ?_)
  have x1 : Builtin.List.listSameRef (.ref p) (.ref S.a) = false := by simp [Builtin.List.listSameRef, hpa]
  have x2 : (Value.type "generator" == Value.type "list") = false := by decide
  have x3 : (Value.type "generator" == Value.type "tuple") = false := by decide
  simp only [x1, x2, x3, Bool.or_false, Bool.false_eq_true, if_false]
  refine wpAny_bind (wpAny_pyIter_gen (s := { s5 with heap := _ }) (gty k1) ?_)
  refine wpAny_bind (wpAny_holding ?_)
  unfold Builtin.List.listLengthHint
  refine wpAny_bind (wpAny_specialOf (Heap.IsGen.typeIs (s := { s5 with heap := _ }) (gty k1)) F.gen_no_len ?_)
  show wpAny _ A.in1 (specialOf (Value.ref S.a) (Str.ofString "__length_hint__") >>= _) _ _ _
  refine wpAny_bind (wpAny_specialOf (Heap.IsGen.typeIs (s := { s5 with heap := _ }) (gty k1)) F.gen_no_hint ?_)
  refine wpAny_pure ?_
  show wpAny _ A.in1 (rule "list.extend.makes-room" >>= fun _ => Builtin.List.listTouch (.ref p) >>= fun _ =>
    again (.builtin "list.extend.loop" ⟨[.ref p, .ref S.a, .ref p], []⟩)) _ _ _
  refine wpAny_bind (wpAny_rule ?_)
  refine wpAny_bind ?_
  show wpAny _ A.in1 (updateSeq p (·.push .none) >>= fun _ => updateSeq p (·.pop)) _ _ _
  refine wpAny_bind (wpAny_updateSeq hp1 rfl ?_)
  have hp2 := Heap.get?_update_self (Obj.mapSeq (·.push Value.none)) hp1 rfl
  refine wpAny_updateSeq (hz := by seq_fits) hp2 rfl ?_
  have hp3 := Heap.get?_update_self (Obj.mapSeq (·.pop)) hp2 rfl
  have ko : ∀ (h : Heap) (f : Obj → Obj), (∀ b ob, s5.heap.get? b = some ob → h.get? b = some ob) → ∀ b ob, s5.heap.get? b = some ob → (h.update p f).get? b = some ob := fun h f q b ob e =>
    (Heap.get?_update_other _ _ (by rw [← hp]; exact Ne.symm (Nat.ne_of_lt (Heap.lt_size e)))).trans (q b ob e)
  have k4 := ko _ (Obj.mapSeq (·.pop)) (ko _ (Obj.mapSeq (·.push Value.none)) k1)
  have hok : GX.Ok { S with A := A.in1.in1, Mem := memT S.k p } := Rd.ok A.in1.in1 (memT S.k p) hAf hh hrm hgd memT_mono
  refine wpAny_pure ⟨plainId_quiet F.plain_extend_loop _, ?_⟩
  refine drainT (S := { S with A := A.in1.in1, Mem := memT S.k p }) hok hkd (p := p) rfl (A := A) rfl hh hroom Rd.gen (fun s' H Z env acc us c vs hAt hv hr ht hen => ?_) S.xs.length 0 _ _ Rd.gs (GX.fresh hok Rd.co rfl) ⟨S.H4, S.Z0, S.env0, [], #[], _, GX.At.start I5 hok (fun b hb => (Rd.fpk b hb).2) (fun b hb => (Rd.fpk b hb).1.1) rfl k4 I5.bare hp3 (Nat.le_of_eq hp) (fun v q => by cases q) ⟨#[], _, [], rfl, .nil, rfl, Nat.zero_le _⟩, ?_, ?_⟩
  · have hS' := (hAt.inv.pin (p, lstObj us c) (List.mem_append_right _ (List.mem_cons_of_mem _ (List.mem_singleton.mpr rfl)))).1
    show wpAny _ A (load p >>= _) _ _ s'
    refine wpAny_bind (wpAny_load hS' ?_)
    exact wpAny_pure (hQ us s' H Z env acc vs p c hAt hv hr ht hen)
  · exact hok.T.keep _ _ _ Rd.tn0 fun b _ ob e => k4 b ob e
  · show lcLoop _ _ _ _ _ (S.xs.drop 0) [] S.env0 = _
    rw [List.drop_zero]
    exact Rd.loop0
section
variable {X : Cx} {tabs : List Addr} {cf : CF} {pos : Pos}
theorem em_gtup {gb : Bool} {c P : Addr} {elt tg iter : Expr} {ifs : List Expr} {scope : Scope} {ow : List (Str × Nat)} {g : G} {it' f' e' : E} {l : Nat} {p gpos : Pos}
    (hr : Room (l + 1) X.A) (hgd : GdOk gb X.A) (hgl : Gl X "tuple") (hmg : X.mg "tuple" = none) (TB : GxR.TabB X.base X.mg c P) (hP : P ∈ tabs) (hcode : X.env.code = .ref c) (okb : BlkOk X.N X.env.scope scope ow) (gk : GScp scope) (hN : X.N.Nodup) (hi : IM X tabs cf tg iter it') (hs : ∀ v, genFold iter X.env v = pure v)
    (hg : ∀ (A : Around) (s : Shared) (H : Hp) (C : Addr) (code : Value) (fp : List Addr), PG (gcx X A s H (genv X scope C code) fp) tg (RdG (kx X tabs) g))
    (hf : ∀ (A : Around) (s : Shared) (H : Hp) (C : Addr) (code : Value) (fp : List Addr), Room l (A.deeper (genv X scope C code)) → GdOk gb A → TsM (gcx X A s H (genv X scope C code) fp) tabs cf ifs f')
    (he : ∀ (A : Around) (s : Shared) (H : Hp) (C : Addr) (code : Value) (fp : List Addr), Room l (A.deeper (genv X scope C code)) → GdOk gb A → EM (gcx X A s H (genv X scope C code) fp) tabs cf elt e')
    (hst : starEach [.GeneratorExp elt [⟨tg, iter, ifs, 0⟩] scope gpos] X.env = (false, eval (.GeneratorExp elt [⟨tg, iter, ifs, 0⟩] scope gpos) X.env) :: starEach [] X.env := by rfl) (hv : bootBuiltins "tuple" = some (.type "tuple") := by decide +kernel) :
    EM X tabs cf (.Call (.Name "tuple" p) [.GeneratorExp elt [⟨tg, iter, ifs, 0⟩] scope gpos] [] pos) (.lc .tuple (ow.map (·.2)) g it' f' e') := by
  refine ⟨fun vw ok => ⟨fun pins s σ H Q I h => ?_⟩⟩
  refine wpAny_Call_Name_kw (ld_blt (u := .type "tuple") I hgl hmg hv ?_)
  refine PyProof.Rows.callWith_type1 ?_ hst rfl
  rw [hst]
  show wpAny _ _ (spliced ((false, eval (.GeneratorExp elt [⟨tg, iter, ifs, 0⟩] scope gpos) X.env) :: backTo pos (starEach [] X.env))) _ _ s
  refine Calls.spliced_cons (gx_ready (l := l) hr TB hP hcode okb gk hN hi hs hg hf he ok I h fun S s5 g0 eX eσ ekd Rd => ?_)
  refine Calls.spliced_nil ?_
  subst eX eσ
  have I5 := Rd.inv S.X.A I.ok.frames hr.hd
  have hgo : s5.heap.get? S.a = some S.go := (I5.pin (S.a, S.go) (List.mem_append_right _ (List.mem_singleton.mpr rfl))).1
  refine call_tuple_col (Heap.IsGen.typeIs (Rd.gen _ hgo)) (collect_g Rd ekd (A := S.X.A.in1.in1) I.ok.frames hr.hd (by have := hr.dp; show S.X.A.depth < _; omega) ⟨hr.hd, ?_, ?_⟩ hgd fun us s' H1 Z1 env1 acc vs p1 c1 hAt hv hrr ht hen => ?_)
  · have := hr.dp
    show S.X.A.depth + 1 + 3 * l + 5 < _
    omega
  · have := hr.un
    show S.X.A.units + 1 + 1 + 1 + 1 + 3 + 16 * l + 200 < _
    omega
  · have hus : us.toList.length ≤ sizeLine := by
      obtain ⟨us2, c2, vs2, e2, hv2, hr2, hz2⟩ := hAt.mem
      cases e2
      rw [Array.length_toList]
      exact hz2
    have IB := hAt.back Rd.I4 fun b hb => (Rd.fpk b hb).1
    refine ⟨hus, .ref s'.heap.objs.size, _, layT (tk := s'.toks) IB (fun b ob e => Heap.get?_push_of_some _ e) (by rw [hv.length]; exact hus) hv (Nat.le_refl _) (Heap.get?_push_size _ rfl), rfl, ?_⟩
    have hfr : H1 s'.heap.objs.size = none := IB.hok.fresh (Nat.le_refl _)
    have gO := Go.out Rd.st hAt.gg hAt.len fun i hi => by simpa using (List.mem_filter.mp hi).2
    rw [← hen] at gO
    refine Rd.out _ Z1 _ (gO.new hfr) (fun d hd => ?_) ⟨_, ht⟩
    rw [ht] at hd
    cases hd
    simp only [Rep]
    exact ⟨_, vs, rfl, ⟨_, upd_same, rfl⟩, RepAll.keep (Keep.new hfr) (fun _ z => z) _ hrr⟩
end
end Sw

set_option Elab.async false
set_option linter.all false
set_option maxRecDepth 100000
/-! sum(.. for ..), all(.. for ..) -/
namespace Sw
open PySem PySem.Spec PyProof.Rows L2 GenW
/-- the sum so far stands in a list -/
def memS (p : Addr) : Ow → List D → (Addr → Prop) → Hp → Prop := fun ps acc _ _ => ∃ (n : Int) (tk : Tok) (c : Nat) (ns : List Int), ps = [(p, lstObj #[.int n tk] c)] ∧ intsOf acc.reverse = some ns ∧ ns.sum = n
theorem memS_mono {p : Addr} : ∀ ps acc Z H Z' H', memS p ps acc Z H → Keep Z H H' → (∀ a, Z a → Z' a) → memS p ps acc Z' H' := fun _ _ _ _ _ _ h _ _ => h
theorem intsOf_snoc : ∀ (ds : List D) (ns : List Int) (i : Int), intsOf ds = some ns → intsOf (ds ++ [.int i]) = some (ns ++ [i])
  | [], ns, i, h => by cases h; rfl
  | .int j :: r, ns, i, h => by
    unfold intsOf at h
    cases e : intsOf r with
    | none => rw [e] at h; cases h
    | some ms =>
      rw [e] at h
      cases h
      show (intsOf (r ++ [.int i])).map (j :: ·) = _
      rw [intsOf_snoc r ms i e]
      rfl
  | .non :: _, _, _, h => by cases h
  | .bl _ :: _, _, _, h => by cases h
  | .str _ :: _, _, _, h => by cases h
  | .tup _ :: _, _, _, h => by cases h
  | .lst _ :: _, _, _, h => by cases h
  | .ty _ :: _, _, _, h => by cases h
theorem sum_snoc (ns : List Int) (i : Int) : (ns ++ [i]).sum = ns.sum + i := by
  induction ns with
  | nil => simp
  | cons a r ih => simp only [List.cons_append, List.sum_cons, ih]; omega
theorem drainS {S : GX} (o : S.Ok) (hkd : S.kd = .sum) {p : Addr} (hM : S.Mem = memS p) {A : Around} (hA : A.in1.in1 = S.A) (hh : A.handled = none) (hroom : A.depth < recursionLimit) {g : Nat} (hgen : ∀ h : Heap, h.get? S.a = some S.go → h.IsGen S.a g) {R : Result → Shared → Prop}
    (hend : ∀ s' H Z env acc ps n t', S.At ps s' H Z env acc → S.t = .im (.int n) → S.envF = env → R (.ok (.ret (.int n t'))) s') :
    ∀ (k j : Nat) (s : Shared) (gs : GenState) (mode : Int), (mode = 0 ∨ mode = 2) → s.gens[g]? = some gs → Slp S.X.prog S.X.w A.in1 S.xs.length S.Core S.Mid S.Fin gs k j → (∃ H Z env acc n tk c, S.At [(p, lstObj #[.int n tk] c)] s H Z env acc ∧ S.tn j s.heap ∧ S.loop j acc env) →
      codeAny (model S.X.prog S.X.w) A (.builtin "sum.loop" ⟨[.ref S.a, .ref p, rawInt mode, rawInt 0], []⟩) R s := by
  intro k
  induction k using Nat.strongRecOn with
  | _ k ih =>
    intro j s gs mode hmd hgs hS ⟨H, Z, env, acc, n, tk, c, hAt, htn, hl⟩
    have hgo := (hAt.inv.pin (S.a, S.go) (List.mem_append_right _ List.mem_cons_self)).1
    have hp0 := (hAt.inv.pin (p, lstObj #[.int n tk] c) (List.mem_append_right _ (List.mem_cons_of_mem _ (List.mem_singleton.mpr rfl)))).1
    refine codeAny_builtin F.entry_sum_loop ?_
    rw [Around.under_plainId F.plain_sum_loop _]
    show wpAny _ A.in1 (seqItems? (.ref p) >>= _) _ _ s
    refine wpAny_bind (wpAny_seqItems hp0 rfl ?_)
    show wpAny _ A.in1 (tryCatch (pyNext (.ref S.a)) _ >>= _) _ _ s
    refine wpAny_bind (wpAny_tryCatch (g_next hh hroom hAt.inv.nolimit (hgen _ hgo) hgs hS ⟨_, H, Z, env, acc, hAt.regen rfl rfl (setGen_bare hAt.bare rfl), htn, hl⟩ (fun j k' v s1 gs' ek hb hsz hMid hS' => ?_) fun s1 hF h' hk => ?_))
    rotate_left
    · obtain ⟨ps, H1, Z1, env1, acc1, hO, hAt1, hE, hv⟩ := hF
      have hm := hAt1.mem
      rw [hM] at hm
      obtain ⟨n1, tk1, c1, ns, rfl, hi1, hs1⟩ := hm
      have e0 : s.heap.get? p = some (lstObj #[.int n1 tk1] c1) := hO _ (List.mem_singleton.mpr rfl)
      have hp0 : s.heap.get? p = some (lstObj #[.int n tk] c) := hp0
      rw [hp0] at e0
      cases e0
      rw [hkd] at hE
      have hE : (intsOf acc1.reverse).map (fun ns => T.im (.int ns.sum)) = some S.t := hE
      rw [hi1] at hE
      refine wpAny_pure (hend _ H1 Z1 env1 acc1 _ n tk (hAt1.kept rfl hk (setGen_bare hAt1.bare rfl)) ?_ hv)
      rw [← hs1]
      exact (Option.some.inj hE).symm
    obtain ⟨ps, H1, Z1, env1, acc1, t1, x, hO, hAt1, htn1, rx, rt, hl1⟩ := hMid
    have hm := hAt1.mem
    rw [hM] at hm
    obtain ⟨n1, tk1, c1, ns, rfl, hi1, hs1⟩ := hm
    have e0 : s.heap.get? p = some (lstObj #[.int n1 tk1] c1) := hO _ (List.mem_singleton.mpr rfl)
    have hp0 : s.heap.get? p = some (lstObj #[.int n tk] c) := hp0
    rw [hp0] at e0
    cases e0
    rw [hkd] at hl1
    obtain ⟨i, et1, hl2⟩ : ∃ i, t1 = .im (.int i) ∧ S.loop (j + 1) (.int i :: acc1) env1 := by
      rcases hl1 with ⟨acc', hacc, hl1⟩ | ⟨b, hacc, _⟩
      · cases t1 with
        | nu _ => cases hacc
        | im d =>
          cases d with
          | int i => cases hacc; exact ⟨i, rfl, hl1⟩
          | _ => cases hacc
      · cases t1 with
        | nu _ => cases hacc
        | im d => cases d <;> cases hacc
    rw [et1] at rt
    have rt : x = .int i := rt
    subst rt
    obtain ⟨ti, rfl⟩ : ∃ t, v = Value.int i t := rx
    have hp1 : s1.heap.get? p = some (lstObj #[.int n tk] c) := (hAt1.inv.pin (p, lstObj #[.int n tk] c) (List.mem_append_right _ (List.mem_cons_of_mem _ (List.mem_singleton.mpr rfl)))).1
    have mk : ∀ (s2 : Shared) (tk2 c2 : Nat), s2.os = s1.os → s2.gens = (s1.setGen g gs').gens → (∀ b ob, b ≠ p → s1.heap.get? b = some ob → s2.heap.get? b = some ob) → s2.heap.get? p = some (lstObj #[.int (n + i) tk2] c2) → ∀ md, (md = 0 ∨ md = 2) →
        codeAny (model S.X.prog S.X.w) A (.builtin "sum.loop" ⟨[.ref S.a, .ref p, rawInt md, rawInt 0], []⟩) R s2 := fun s2 tk2 c2 h1 h2 h3 h4 md hmd2 => by
      refine ih k' (by omega) (j + 1) s2 gs' md hmd2 (by rw [h2]; exact setGen_get hsz) hS' ⟨H1, Z1, env1, .int i :: acc1, n + i, tk2, c2, ?_, ?_, hl2⟩
      · refine hAt1.write (ps := []) h1 h3 (by rw [h2]; exact setGen_bare hAt1.bare hb) h4 (fun v q => by cases q) hAt1.gg (by rw [hM]; exact ⟨n + i, tk2, c2, ns ++ [i], rfl, by rw [List.reverse_cons]; exact intsOf_snoc _ _ _ hi1, by rw [sum_snoc, hs1]⟩)
      · refine o.T.keep _ _ _ htn1 fun b hb ob e => h3 b ob (fun z => ?_) e
        exact (hAt1.ow (p, lstObj #[.int n tk] c) (List.mem_singleton.mpr rfl)).2.2 (z ▸ hb)
    have keep1 : ∀ (h : Heap) (f : Obj → Obj), (∀ b ob, b ≠ p → s1.heap.get? b = some ob → h.get? b = some ob) → ∀ b ob, b ≠ p → s1.heap.get? b = some ob → (h.update p f).get? b = some ob := fun h f q b ob hb e => (Heap.get?_update_other _ _ (Ne.symm hb)).trans (q b ob hb e)
    have slow : ∀ (l : List Value), wpAny (model S.X.prog S.X.w) A.in1 (updateSeq p (fun _ => #[.int (n + i) s1.toks]) >>= fun _ => letGo l >>= fun _ => updateSeq p (fun _ => #[.int (n + i) s1.toks]) >>= fun _ => again (.builtin "sum.loop" ⟨[.ref S.a, .ref p, rawInt 2, rawInt 0], []⟩)) (fun fin s' => match fin with
      | Fin.done f => R (Except.ok f) s'
      | Fin.again c' => c'.quiet = true ∧ codeAny (model S.X.prog S.X.w) A c' R s') (fun e s' => R (Except.error e) s') { s1.setGen g gs' with toks := s1.toks + 1 } := fun l => by
      refine wpAny_bind (wpAny_updateSeq (hz := by seq_fits) hp1 rfl ?_)
      have hp2 := Heap.get?_update_self (Obj.mapSeq fun _ => #[Value.int (n + i) s1.toks]) hp1 rfl
      refine wpAny_bind (wpAny_letGo ?_)
      refine wpAny_bind (wpAny_updateSeq (hz := by seq_fits) hp2 rfl (wpAny_pure ⟨plainId_quiet F.plain_sum_loop _, ?_⟩))
      refine mk _ s1.toks ?_ ?_ ?_ ?_ ?_ 2 (.inr rfl)
      rotate_left
      · rfl
      · rfl
      · exact keep1 _ _ (keep1 _ _ fun _ _ _ e => e)
      · exact Heap.get?_update_self (Obj.mapSeq fun _ => #[Value.int (n + i) s1.toks]) hp2 rfl
    rcases hmd with rfl | rfl
    · show wpAny _ A.in1 (if (_ : Bool) = true then (mkInt (n + i) >>= _) else _) _ _ _
      split
      · refine wpAny_bind (wpAny_mkInt ?_)
        show wpAny _ A.in1 (updateSeq p (fun _ => #[.int (n + i) s1.toks]) >>= _) _ _ _
        refine wpAny_bind ?_
        refine wpAny_updateSeq hp1 rfl (wpAny_pure ⟨plainId_quiet F.plain_sum_loop _, ?_⟩)
        refine mk _ s1.toks ?_ ?_ ?_ ?_ ?_ 0 (.inl rfl)
        rotate_left
        · rfl
        · rfl
        · exact keep1 _ _ fun _ _ _ e => e
        · exact Heap.get?_update_self (Obj.mapSeq fun _ => #[Value.int (n + i) s1.toks]) hp1 rfl
      · refine wpAny_bind (wpAny_rule ?_)
        refine wpAny_bind (wpAny_attempt (wpAny_holding (wpAny_add_int ?_)))
        exact slow _
    · show wpAny _ A.in1 ((holding [Value.int i ti] (binaryOp .Add (.int n tk) (.int i ti))).attempt >>= _) _ _ _
      refine wpAny_bind (wpAny_attempt (wpAny_holding (wpAny_add_int ?_)))
      exact slow _
section
variable {P : Program} {w : World} {A : Around} {E : Value → Shared → Prop} {s : Shared}
theorem call_sum_by {a : Addr} {g : Nat} {Q : Value → Shared → Prop} (hg : s.heap.IsGen a g) (h : ∀ (p : Addr) (s' : Shared) (tk : Nat), p = s.heap.objs.size → s' = { s with toks := tk, heap := s.heap.push { cls := .type "list", data := .seq #[.int 0 s.toks] } } →
      codeAny (model P w) A (.builtin "sum.loop" ⟨[.ref a, .ref p, rawInt 0, rawInt 0], []⟩) (wants Q E) s') :
    wpAny (model P w) A (call (.builtin "sum") [.ref a]) Q E s := by
  refine call_function_tree F.kind_sum F.plain_sum F.entry_sum (F.args_sum1 _) ?_
  unfold Builtin.«sum»
  simp only [List.length_cons, List.length_nil]
  rw [if_neg (by decide)]
  refine wpAny_bind (wpAny_of_eq (show Builtin.Builtins.bindParams "sum" ["start"] 0 { } = pure [none] from rfl) ?_)
  refine wpAny_bind (wpAny_pyIter_gen hg ?_)
  refine wpAny_bind (wpAny_mkInt ?_)
  refine wpAny_bind (wpAny_pure ?_)
  simp only [List.forIn_cons, List.forIn_nil]
  refine wpAny_bind (wpAny_bind (wpAny_bind (wpAny_isInstance (T := "int") (b := false) (typeIs_int _ _ _) PySem.sub_int_str ?_)))
  simp only [Bool.false_eq_true, if_false]
  refine wpAny_pure (wpAny_bind (wpAny_bind (wpAny_isInstance (T := "int") (b := false) (typeIs_int _ _ _) PySem.sub_int_bytes ?_)))
  simp only [Bool.false_eq_true, if_false]
  refine wpAny_pure (wpAny_bind (wpAny_bind (wpAny_isInstance (T := "int") (b := false) (typeIs_int _ _ _) PySem.sub_int_bytearray ?_)))
  simp only [Bool.false_eq_true, if_false]
  refine wpAny_pure (wpAny_pure ?_)
  refine wpAny_bind (wpAny_newObj_type ?_)
  refine wpAny_pure ⟨plainId_quiet F.plain_sum_loop _, ?_⟩
  refine codeAny_mono (h _ _ _ rfl rfl) fun r s' hr => ?_
  exact hr
end
section
variable {X : Cx} {tabs : List Addr} {cf : CF} {pos : Pos}
theorem em_gsum {gb : Bool} {c P : Addr} {elt tg iter : Expr} {ifs : List Expr} {scope : Scope} {ow : List (Str × Nat)} {g : G} {it' f' e' : E} {l : Nat} {p gpos : Pos}
    (hr : Room (l + 1) X.A) (hgd : GdOk gb X.A) (hgl : Gl X "sum") (hmg : X.mg "sum" = none) (TB : GxR.TabB X.base X.mg c P) (hP : P ∈ tabs) (hcode : X.env.code = .ref c) (okb : BlkOk X.N X.env.scope scope ow) (gk : GScp scope) (hN : X.N.Nodup) (hi : IM X tabs cf tg iter it') (hs : ∀ v, genFold iter X.env v = pure v)
    (hg : ∀ (A : Around) (s : Shared) (H : Hp) (C : Addr) (code : Value) (fp : List Addr), PG (gcx X A s H (genv X scope C code) fp) tg (RdG (kx X tabs) g))
    (hf : ∀ (A : Around) (s : Shared) (H : Hp) (C : Addr) (code : Value) (fp : List Addr), Room l (A.deeper (genv X scope C code)) → GdOk gb A → TsM (gcx X A s H (genv X scope C code) fp) tabs cf ifs f')
    (he : ∀ (A : Around) (s : Shared) (H : Hp) (C : Addr) (code : Value) (fp : List Addr), Room l (A.deeper (genv X scope C code)) → GdOk gb A → EM (gcx X A s H (genv X scope C code) fp) tabs cf elt e')
    (hst : starEach [.GeneratorExp elt [⟨tg, iter, ifs, 0⟩] scope gpos] X.env = (false, eval (.GeneratorExp elt [⟨tg, iter, ifs, 0⟩] scope gpos) X.env) :: starEach [] X.env := by rfl) (hv : bootBuiltins "sum" = some (.builtin "sum") := by decide +kernel) :
    EM X tabs cf (.Call (.Name "sum" p) [.GeneratorExp elt [⟨tg, iter, ifs, 0⟩] scope gpos] [] pos) (.lc .sum (ow.map (·.2)) g it' f' e') := by
  refine ⟨fun vw ok => ⟨fun pins s σ H Q I h => ?_⟩⟩
  refine wpAny_Call_Name_kw (ld_blt (u := .builtin "sum") I hgl hmg hv ?_)
  refine PyProof.Rows.callWith_builtin1 ?_ hst (by rfl)
  rw [hst]
  show wpAny _ _ (spliced ((false, eval (.GeneratorExp elt [⟨tg, iter, ifs, 0⟩] scope gpos) X.env) :: backTo pos (starEach [] X.env))) _ _ s
  refine Calls.spliced_cons (gx_ready (l := l) hr TB hP hcode okb gk hN hi hs hg hf he ok I h fun S s5 g0 eX eσ ekd Rd => ?_)
  refine Calls.spliced_nil ?_
  subst eX eσ
  have I5 := Rd.inv S.X.A.in1.in1 I.ok.frames hr.hd
  have hgo : s5.heap.get? S.a = some S.go := (I5.pin (S.a, S.go) (List.mem_append_right _ (List.mem_singleton.mpr rfl))).1
  refine call_sum_by (Rd.gen _ hgo) fun p1 s6 tk ep es => ?_
  have k6 : ∀ b ob, s5.heap.get? b = some ob → s6.heap.get? b = some ob := fun b ob e => by rw [es]; exact Heap.get?_push_of_some _ e
  have hp6 : s6.heap.get? p1 = some (lstObj #[.int 0 s5.toks] 0) := by rw [es, ep]; exact Heap.get?_push_size _ rfl
  have hok : GX.Ok { S with A := S.X.A.in1.in1, Mem := memS p1 } := Rd.ok S.X.A.in1.in1 (memS p1) I.ok.frames hr.hd ⟨hr.hd, by have := hr.dp; show S.X.A.depth + 1 + 3 * l + 5 < _; omega, by have := hr.un; show S.X.A.units + 1 + 1 + 3 + 16 * l + 200 < _; omega⟩ hgd memS_mono
  refine drainS (S := { S with A := S.X.A.in1.in1, Mem := memS p1 }) hok ekd (p := p1) rfl (A := S.X.A) rfl hr.hd (by have := hr.dp; show S.X.A.depth < _; omega) Rd.gen (fun s' H1 Z1 env1 acc ps n t' hAt ht hen => ?_) S.xs.length 0 s6 _ 0 (.inl rfl) (by rw [es]; exact Rd.gs) (GX.fresh hok Rd.co rfl)
    ⟨S.H4, S.Z0, S.env0, [], 0, s5.toks, 0, GX.At.start I5 hok (fun b hb => (Rd.fpk b hb).2) (fun b hb => (Rd.fpk b hb).1.1) (by rw [es]) k6 (by rw [es]; exact I5.bare) hp6 (Nat.le_of_eq ep.symm) (fun v q => by cases q) ⟨0, s5.toks, 0, [], rfl, rfl, rfl⟩, ?_, ?_⟩
  · have IB := hAt.back Rd.I4 fun b hb => (Rd.fpk b hb).1
    refine ⟨.int n, H1, IB, ⟨t', rfl⟩, ?_⟩
    have gO := Go.out Rd.st hAt.gg hAt.len fun i hi => by simpa using (List.mem_filter.mp hi).2
    rw [← hen] at gO
    have ht : S.t = .im (.int n) := ht
    refine Rd.out _ Z1 _ gO (fun d hd => ?_) ⟨_, ht⟩
    rw [ht] at hd
    cases hd
    simp only [Rep]
  · exact hok.T.keep _ _ _ Rd.tn0 fun b _ ob e => k6 b ob e
  · show lcLoop _ _ _ _ _ (S.xs.drop 0) [] S.env0 = _
    rw [List.drop_zero]
    exact Rd.loop0
end
end Sw

set_option Elab.async false
set_option linter.all false
set_option maxRecDepth 100000
/-! x += e; zip; tuple(range(..)), list(range(..)). -/
namespace Sw
open PySem PySem.Spec PyProof.Rows L2 GenW RZ
section
variable {X : Cx} {tabs : List Addr} {cf : CF} {a b c : Expr} {a' b' c' : E} {pos : Pos}
/-- what serves an operator of whole numbers in place -/
def AugServes (o : BOp) (ti : TIp) : Prop := ∀ i j n H Q, augI o i j = some n → Q (V.int n) H → ti (.int i) (.int j) H Q
theorem aug_add : AugServes .add (ipI fun i j => i + j) := fun i j n H Q h q => by cases h; exact ⟨i, j, rfl, rfl, q⟩
theorem aug_sub : AugServes .sub (ipI fun i j => i - j) := fun i j n H Q h q => by cases h; exact ⟨i, j, rfl, rfl, q⟩
theorem aug_mul : AugServes .mul (rI CMul fun i j => .int (i * j)) := fun i j n H Q h q => by
  have h : (if mulOk i j then some (i * j) else none) = some n := h
  split at h
  · rename_i c
    cases h
    refine ⟨i, j, rfl, rfl, ?_, q⟩
    unfold mulOk at c
    simp only [Bool.or_eq_true, decide_eq_true_eq] at c
    rcases c with c | c
    · exact .inl ⟨by omega, by omega⟩
    · exact .inr ⟨by omega, by omega⟩
  · cases h
theorem intOf_some {t : T} {i : Int} (h : intOf t = some i) : t = .im (.int i) := by
  cases t with
  | nu _ => cases h
  | im d => cases d <;> first | (cases h; rfl) | cases h
theorem sx_aug {x : Str} {i : Nat} {e : Expr} {e' : E} {op : Operator} {o : BOp} {ti : TIp} {pos' : Pos} (hN : X.N.Nodup) (hi : X.N[i]? = some x) (hx : Loc X.env.scope x) (ho : PIp X op ti) (hsv : AugServes o ti) (hf : X.fn x = true ∨ X.env.scope.names.lookup x = some .local) (h : EM X tabs cf e e') :
    SX X tabs cf (.AugAssign (.Name x pos') op e pos) (.aug i o e') := by
  refine ⟨fun ok => Sw.PS.weak (ps_aug hN hi hx (h.run true ok) ho hf) fun D σ H h => ?_⟩
  obtain ⟨Z, env, fl, env', st, he, q⟩ := h
  obtain ⟨x1, env1, he1, heA⟩ := Res.bind_ok (show (rdV true i env).bind _ = _ from he)
  clear he
  obtain ⟨y1, env2, he2, heB⟩ := Res.bind_ok heA
  clear heA
  split at heB
  · rename_i n1 n2 e1 e2
    have e1 := intOf_some e1
    have e2 := intOf_some e2
    subst e1 e2
    split at heB
    · rename_i n en
      obtain ⟨e3, env3, he3, heC⟩ := Res.bind_ok heB
      cases heC
      obtain ⟨hf3, rfl⟩ := Res.of_ok he3
      have key : env1 = env ∧ ∃ v, σ[i]? = some (some v) ∧ Rep (kx X tabs) Z H (.int n1) v := by
        unfold rdV at he1
        split at he1
        · rename_i d ed
          cases he1
          exact ⟨rfl, st.im i _ ed⟩
        · cases he1
        · simp at he1
        · simp at he1
        · cases he1
      obtain ⟨rfl, v, hv, rv⟩ := key
      have rv : v = .int n1 := rv
      subst rv
      refine ⟨_, hv, Z, _, _, _, st, he2, fun w Z1 H1 g1 r1 => ?_⟩
      have r1 : w = .int n2 := r1.v
      subst r1
      refine hsv _ _ _ _ _ en (q _ Z1 H1 (g1.s.store (t := .im (.int n)) hf3 ?_))
      exact (show Rep (kx X tabs) Z1 H1 (.int n) (.int n) by simp only [Rep])
    · cases heB
  · cases heB
end
theorem RepAll.pair {k : Kx} {Z : Addr → Prop} {H : Hp} {d1 d2 : D} {x y : V} (h1 : Rep k Z H d1 x) (h2 : Rep k Z H d2 y) : RepAll k Z H [d1, d2] [x, y] := by
  simp only [RepAll]
  exact ⟨x, [y], rfl, h1, y, [], rfl, h2, rfl⟩
theorem zip_get {xs ys : List D} {i : Nat} {d : D} (h : (List.zipWith (fun a b => D.pr [a, b]) xs ys)[i]? = some d) : ∃ a b, xs[i]? = some a ∧ ys[i]? = some b ∧ d = .pr [a, b] := by
  rw [List.getElem?_zipWith] at h
  cases e1 : xs[i]? with
  | none => rw [e1] at h; cases h
  | some a =>
    cases e2 : ys[i]? with
    | none => rw [e1, e2] at h; cases h
    | some b => rw [e1, e2] at h; cases h; exact ⟨a, b, rfl, rfl, rfl⟩
theorem zip_len {xs ys : List D} {i : Nat} (h : (List.zipWith (fun a b => D.pr [a, b]) xs ys).length ≤ i) : xs.length ≤ i ∨ ys.length ≤ i := by
  rw [List.length_zipWith] at h
  omega
theorem jok_zipT {k : Kx} {Z : Addr → Prop} {H : Hp} {xs ys : List D} {p q : Addr} {us vs : List V} (h1 : TupX H p us) (h2 : TupX H q vs) (r1 : RepAll k Z H xs us) (r2 : RepAll k Z H ys vs) : JOk k Z H (ItzT k.K p q) (List.zipWith (fun a b => D.pr [a, b]) xs ys) := by
  intro Z2 H2 hz kp i
  obtain ⟨o1, h1, _⟩ := h1
  obtain ⟨o2, h2, _⟩ := h2
  have s1 : SqT k.K H2 p us := .inl (.inr ⟨o1, kp.frz _ _ _ h1⟩)
  have s2 : SqT k.K H2 q vs := .inl (.inr ⟨o2, kp.frz _ _ _ h2⟩)
  have q1 := RepAll.keep kp hz _ r1
  have q2 := RepAll.keep kp hz _ r2
  refine ⟨fun d hd => ?_, fun hi => ⟨us, vs, s1, s2, ?_⟩⟩
  · obtain ⟨d1, d2, e1, e2, rfl⟩ := zip_get hd
    obtain ⟨x, x1, x2⟩ := RepAll.get _ q1 e1
    obtain ⟨y, y1, y2⟩ := RepAll.get _ q2 e2
    refine ⟨⟨us, vs, x, y, s1, s2, x1, y1⟩, fun v H3 hy => ?_⟩
    obtain ⟨T, x', y', rfl, hT, rfl, g1, g2⟩ := hy
    have := g1 us s1
    rw [x1] at this
    cases this
    have := g2 vs s2
    rw [y1] at this
    cases this
    refine ⟨.inr ⟨T, _, hT, rfl⟩, ?_⟩
    simp only [Rep]
    exact ⟨T, [x, y], rfl, upd_same, RepAll.pair (x2.keep (Keep.new hT) fun _ z => z) (y2.keep (Keep.new hT) fun _ z => z)⟩
  · rw [← RepAll.len _ r1, ← RepAll.len _ r2]
    exact zip_len hi
theorem jok_zipL {k : Kx} {Z : Addr → Prop} {H : Hp} {xs ys : List D} {p q : Addr} {us vs : List V} (h1 : (Z p ∧ Rd H p (.lst us)) ∨ KL k.K p us) (h2 : (Z q ∧ Rd H q (.lst vs)) ∨ KL k.K q vs) (r1 : RepAll k Z H xs us) (r2 : RepAll k Z H ys vs) : JOk k Z H (Itz k.K p q) (List.zipWith (fun a b => D.pr [a, b]) xs ys) := by
  intro Z2 H2 hz kp i
  have s1 := zl_sq (zl_keep kp hz h1)
  have s2 := zl_sq (zl_keep kp hz h2)
  have q1 := RepAll.keep kp hz _ r1
  have q2 := RepAll.keep kp hz _ r2
  refine ⟨fun d hd => ?_, fun hi => ⟨us, vs, s1, s2, ?_⟩⟩
  · obtain ⟨d1, d2, e1, e2, rfl⟩ := zip_get hd
    obtain ⟨x, x1, x2⟩ := RepAll.get _ q1 e1
    obtain ⟨y, y1, y2⟩ := RepAll.get _ q2 e2
    refine ⟨⟨us, vs, x, y, s1, s2, x1, y1⟩, fun v H3 hy => ?_⟩
    obtain ⟨T, x', y', rfl, hT, rfl, g1, g2⟩ := hy
    have := g1 us s1
    rw [x1] at this
    cases this
    have := g2 vs s2
    rw [y1] at this
    cases this
    refine ⟨.inr ⟨T, _, hT, rfl⟩, ?_⟩
    simp only [Rep]
    exact ⟨T, [x, y], rfl, upd_same, RepAll.pair (x2.keep (Keep.new hT) fun _ z => z) (y2.keep (Keep.new hT) fun _ z => z)⟩
  · rw [← RepAll.len _ r1, ← RepAll.len _ r2]
    exact zip_len hi
section
variable {X : Cx} {tabs : List Addr} {cf : CF} {a b c : Expr} {a' b' c' : E} {pos : Pos}
theorem im_zip {tg : Expr} {p : Pos} (hp : ∀ ta, PA X [a, b] ta → PI X tg (.Call (.Name "zip" p) [a, b] [] pos) (iZipA X.K ta)) (h : SM X tabs cf [a, b] (.cons a' (.cons b' .nil))) : IM X tabs cf tg (.Call (.Name "zip" p) [a, b] [] pos) (.bi .zip (.cons a' (.cons b' .nil))) := by
  refine ⟨fun ok => Sw.PI.weak (hp _ (h.run ok)) fun σ H R h => ?_⟩
  obtain ⟨Z, env, xs, env', st, he, q⟩ := h
  rw [evi_walk rfl] at he
  obtain ⟨ds, env1, h1, he⟩ := Res.bind_ok he
  obtain ⟨hf, rfl⟩ := Res.of_ok he
  refine ⟨Z, env, ds, _, st, h1, fun vs Z1 H1 g1 r1 => ?_⟩
  have hf : zipOf ds = some xs := hf
  unfold zipOf at hf
  split at hf
  · cases hf
    simp only [RepAll] at r1
    obtain ⟨v, _, rfl, r1, w, _, rfl, r2, rfl⟩ := r1
    simp only [Rep] at r1 r2
    obtain ⟨p1, us, rfl, e1, r1⟩ := r1
    obtain ⟨p2, ws, rfl, e2, r2⟩ := r2
    exact ⟨p1, p2, us, ws, rfl, .inr ⟨e1.sq, e2.sq, q _ Z1 H1 g1 (jok_zipT e1 e2 r1 r2)⟩⟩
  · cases hf
    simp only [RepAll] at r1
    obtain ⟨v, _, rfl, r1, w, _, rfl, r2, rfl⟩ := r1
    simp only [Rep] at r1 r2
    obtain ⟨p1, us, rfl, e1, r1⟩ := r1
    obtain ⟨p2, ws, rfl, e2, r2⟩ := r2
    exact ⟨p1, p2, us, ws, rfl, .inl ⟨zl_sq e1, zl_sq e2, q _ Z1 H1 g1 (jok_zipL e1 e2 r1 r2)⟩⟩
  · cases hf
/-! ### ranges gathered -/
def rgL (lo c : Int) (n : Nat) : List V := (List.range n).map fun (i : Nat) => V.int (lo + (i : Int) * c)
theorem rgL_rep {k : Kx} {Z : Addr → Prop} {H : Hp} (lo c : Int) (n : Nat) : RepAll k Z H ((List.range n).map fun (i : Nat) => D.int (lo + (i : Int) * c)) (rgL lo c n) := by
  unfold rgL
  generalize List.range n = l
  induction l with
  | nil => rfl
  | cons i r ih =>
    simp only [List.map_cons, RepAll]
    exact ⟨_, _, rfl, by simp only [Rep], ih⟩
theorem vals_of {xs : List V} {us : List Value} (hl : xs.length = us.length) (h : ∀ (i : Nat) x u, xs[i]? = some x → us[i]? = some u → RelV x u) : Vals xs us := by
  induction xs generalizing us with
  | nil => cases us with | nil => exact .nil | cons _ _ => cases hl
  | cons x r ih => cases us with
    | nil => cases hl
    | cons u us => exact .cons (h 0 x u rfl rfl) (ih (by simpa using hl) fun i y v e1 e2 => h (i + 1) y v (by simpa using e1) (by simpa using e2))
theorem rgL_vals {lo c : Int} {n : Nat} {acc : Array Value} (h : ItemsOf (fun i v => ∃ t, v = .int (lo + i * c) t) acc n) : Vals (rgL lo c n) acc.toList := by
  refine vals_of ?_ fun i x u hx hu => ?_
  · unfold rgL; rw [List.length_map, List.length_range, Array.length_toList, h.1]
  · unfold rgL at hx
    rw [List.getElem?_map] at hx
    have hi : i < n := by
      by_cases hi : i < n
      · exact hi
      · rw [List.getElem?_eq_none (by rw [List.length_range]; omega)] at hx; cases hx
    rw [List.getElem?_range hi] at hx
    cases hx
    obtain ⟨t, e⟩ := h.2 i u (by simpa using hu)
    exact ⟨t, e⟩
/-- an expression that makes a range -/
def PRc (X : Cx) (e : Expr) (t : L2.St → Hp → (Int → Int → Int → Nat → Hp → Prop) → Prop) : Prop :=
  ∀ (pins : List (Addr × Obj)) (s : Shared) (σ : L2.St) (H : Hp) (Q : Int → Int → Int → Nat → Hp → Prop), Inv X pins σ H s → t σ H Q →
    wpAny (model X.prog X.w) X.A (eval e X.env) (fun x s' => ∃ r lo hi st t u v n H', x = .ref r ∧ IsRange s'.heap r lo hi st t u v ∧ RgC lo hi st n ∧ Inv X pins σ H' s' ∧ Q lo hi st n H') X.xe s
def tRc (ta : TA) : L2.St → Hp → (Int → Int → Int → Nat → Hp → Prop) → Prop := fun σ H Q => ta σ H fun vs H1 => ∃ lo hi st n, (vs = [.int hi] ∧ lo = 0 ∧ st = 1 ∨ vs = [.int lo, .int hi] ∧ st = 1 ∨ vs = [.int lo, .int hi, .int st]) ∧ RgC lo hi st n ∧ Q lo hi st n H1
theorem prc {es : List Expr} {e : Expr} {ta : TA} {p : Pos} (hg : Gl X "range") (hm : X.mg "range" = none) (ha : PA X (e :: es) ta)
    (hs : starEach (e :: es) X.env = (false, eval e X.env) :: starEach es X.env := by rfl) (hpl : (backTo pos (starEach es X.env)).any (·.1) = false := by rfl) : PRc X (.Call (.Name "range" p) (e :: es) [] pos) (tRc ta) := by
  intro pins s σ H Q I h
  refine Call_ (ld_blt I hg hm boot_range (PyProof.Rows.callWith_type1 (thn (ha.run pos pins s σ H _ I h) fun us s1 ⟨vs, H1, I1, r1, q1⟩ => ?_) hs hpl))
  obtain ⟨lo, hi, st, n, e, hC, q⟩ := q1
  rcases e with ⟨rfl, rfl, rfl⟩ | ⟨rfl, rfl⟩ | rfl
  · cases r1 with
    | cons r rr =>
      cases rr
      obtain ⟨t, rfl⟩ := r
      exact call_range_1 ⟨_, 0, hi, 1, _, _, _, n, H1, rfl, IsRange.new _ _ _ _ _ _ _, hC, I1.kept fun b u e => Heap.get?_push_of_some _ e, q⟩
  · cases r1 with
    | cons r rr =>
      cases rr with
      | cons r' rr =>
        cases rr
        obtain ⟨t, rfl⟩ := r
        obtain ⟨t', rfl⟩ := r'
        exact call_range_2 ⟨_, lo, hi, 1, _, _, _, n, H1, rfl, IsRange.new _ _ _ _ _ _ _, hC, I1.kept fun b u e => Heap.get?_push_of_some _ e, q⟩
  · cases r1 with
    | cons r rr =>
      cases rr with
      | cons r' rr =>
        cases rr with
        | cons r'' rr =>
          cases rr
          obtain ⟨t, rfl⟩ := r
          obtain ⟨t', rfl⟩ := r'
          obtain ⟨t'', rfl⟩ := r''
          refine call_range_3 hC.1 ?_ (.inl (PyProof.noPylong_small hC.2.1))
          exact ⟨_, lo, hi, st, _, _, _, n, H1, rfl, IsRange.new _ _ _ _ _ _ _, hC, I1.kept (t' := s1.toks) fun b u e => Heap.get?_push_of_some _ e, q⟩
def tColT (te : L2.St → Hp → (Int → Int → Int → Nat → Hp → Prop) → Prop) : TE := fun σ H Q => te σ H fun lo _ st n H1 => n ≤ sizeLine ∧ ∀ q us, H1 q = none → Q (.ref q) (upd H1 q (.frz (tupO us) (.tup (rgL lo st n))))
def tColL (te : L2.St → Hp → (Int → Int → Int → Nat → Hp → Prop) → Prop) : TE := fun σ H Q => te σ H fun lo _ st n H1 => n ≤ sizeLine ∧ ∀ q, H1 q = none → Q (.ref q) (upd H1 q (.lst (rgL lo st n)))
theorem rgL_len (lo c : Int) (n : Nat) : (rgL lo c n).length = n := by unfold rgL; rw [List.length_map, List.length_range]
theorem pe_colT {e : Expr} {te : L2.St → Hp → (Int → Int → Int → Nat → Hp → Prop) → Prop} {p : Pos} (hc : X.calm = true) (hg : Gl X "tuple") (hm : X.mg "tuple" = none) (he : PRc X e te) (na : starEach [e] X.env = (false, eval e X.env) :: starEach [] X.env := by rfl) : PE X (.Call (.Name "tuple" p) [e] [] pos) (tColT te) := by
  refine ⟨fun pins s σ H Q I h => ?_⟩
  refine Call_ (ld_blt I hg hm boot_tuple (PyProof.Rows.callWith_type1 (args_cons (thn (he pins s σ H _ I h) fun x s1 ⟨r, lo, hi, st, t, u, v, n, H1, ex, hr, ok, I1, hz, q⟩ => args_nil ?_) na) na))
  subst ex
  refine call_tuple_range (n := n) (I1.ok.hd hc) hr ok.2.2.1 ok.2.2.2 (by have : sizeLine = 2 ^ 24 := by decide
                                                                          omega) fun h' tk acc hk hi => ?_
  have I2 : Inv X pins σ H1 { s1 with heap := h', toks := tk } := I1.kept hk
  refine ⟨.ref h'.objs.size, _, layT (tk := tk) (us := acc.toList) I2 (fun c o e => Heap.get?_push_of_some _ e) (by rw [rgL_len]; exact hz) (rgL_vals hi) (Nat.le_refl _) ?_, rfl, q _ acc.toList (I2.hok.fresh (Nat.le_refl _))⟩
  unfold tupO
  rw [Array.toArray_toList]
  exact Heap.get?_push_size _ rfl
theorem pe_colL {e : Expr} {te : L2.St → Hp → (Int → Int → Int → Nat → Hp → Prop) → Prop} {p : Pos} (hc : X.calm = true) (hg : Gl X "list") (hm : X.mg "list" = none) (he : PRc X e te) (na : starEach [e] X.env = (false, eval e X.env) :: starEach [] X.env := by rfl) : PE X (.Call (.Name "list" p) [e] [] pos) (tColL te) := by
  refine ⟨fun pins s σ H Q I h => ?_⟩
  refine Call_ (ld_blt I hg hm boot_list (PyProof.Rows.callWith_type1 (args_cons (thn (he pins s σ H _ I h) fun x s1 ⟨r, lo, hi, st, t, u, v, n, H1, ex, hr, ok, I1, hz, q⟩ => args_nil ?_) na) na))
  subst ex
  refine call_list_range (n := n) (I1.ok.hd hc) hr ok.2.2.1 ok.2.2.2 (by have : sizeLine = 2 ^ 24 := by decide
                                                                         omega) fun h' tk acc c' hk e' hi => ?_
  refine ⟨.ref s1.heap.objs.size, upd H1 s1.heap.objs.size (.lst (rgL lo st n)), I1.laid hk (Nat.le_refl _) (show ObjOk X.prog X.w _ _ _ (.lst (rgL lo st n)) from ⟨by rw [rgL_len]; exact hz, acc.toList, c', rgL_vals hi, ?_⟩), rfl, q _ (I1.hok.fresh (Nat.le_refl _))⟩
  rw [Array.toArray_toList]; exact e'
theorem rd_rc {k : Kx} {cf : CF} {es : E} {σ : L2.St} {H : Hp} {md : Md} {env env' : En} {Z : Addr → Prop} {xs : List D} {Q : Int → Int → Int → Nat → Hp → Prop} (st : StOk k Z H σ env) (he : evi cf (.bi .range es) env = .ok xs env')
    (q : ∀ lo hi c n Z1 H1, Go k (tou es .keep) σ Z H env Z1 H1 env' → xs = (List.range n).map (fun (i : Nat) => D.int (lo + (i : Int) * c)) → Q lo hi c n H1) : tRc (RdS k cf es) σ H Q := by
  rw [evi_walk rfl] at he
  obtain ⟨ds, env1, h1, he⟩ := Res.bind_ok he
  obtain ⟨hf, rfl⟩ := Res.of_ok he
  refine ⟨Z, env, ds, _, st, h1, fun vs Z1 H1 g1 r1 => ?_⟩
  replace hf : rangeOf ds = some xs := hf
  unfold rangeOf at hf
  split at hf
  · rename_i n
    simp only [RepAll, Rep] at r1
    obtain ⟨v, _, rfl, rfl, rfl⟩ := r1
    obtain ⟨hb, e⟩ := rangeL_some hf
    exact ⟨0, n, 1, _, .inl ⟨rfl, rfl, rfl⟩, rgC_of hb.1 hb.2.1 hb.2.2.1 hb.2.2.2.1 hb.2.2.2.2.1 hb.2.2.2.2.2, q _ _ _ _ Z1 H1 g1 e⟩
  · rename_i m n
    simp only [RepAll, Rep] at r1
    obtain ⟨v, _, rfl, rfl, w, _, rfl, rfl, rfl⟩ := r1
    obtain ⟨hb, e⟩ := rangeL_some hf
    exact ⟨m, n, 1, _, .inr (.inl ⟨rfl, rfl⟩), rgC_of hb.1 hb.2.1 hb.2.2.1 hb.2.2.2.1 hb.2.2.2.2.1 hb.2.2.2.2.2, q _ _ _ _ Z1 H1 g1 e⟩
  · rename_i m n l
    simp only [RepAll, Rep] at r1
    obtain ⟨v, _, rfl, rfl, w, _, rfl, rfl, u, _, rfl, rfl, rfl⟩ := r1
    obtain ⟨hb, e⟩ := rangeL_some hf
    exact ⟨m, n, l, _, .inr (.inr rfl), rgC_of hb.1 hb.2.1 hb.2.2.1 hb.2.2.2.1 hb.2.2.2.2.1 hb.2.2.2.2.2, q _ _ _ _ Z1 H1 g1 e⟩
  · cases hf
theorem em_colT {es : List Expr} {e : Expr} {es' : E} {p pr posr : Pos} (hp : ∀ ta, PA X (e :: es) ta → PE X (.Call (.Name "tuple" p) [.Call (.Name "range" pr) (e :: es) [] posr] [] pos) (tColT (tRc ta))) (h : SM X tabs cf (e :: es) es') : EM X tabs cf (.Call (.Name "tuple" p) [.Call (.Name "range" pr) (e :: es) [] posr] [] pos) (.col .tuple (.bi .range es')) := by
  refine ⟨fun vw ok => Sw.PE.weak (hp _ (h.run ok)) fun σ H Q h => ?_⟩
  obtain ⟨Z, env, t, env', st, he, q⟩ := h
  rw [ev_col] at he
  obtain ⟨xs, env1, h1, he⟩ := Res.bind_ok he
  obtain ⟨hf, rfl⟩ := Res.of_ok he
  have hf : (if xs.length ≤ SL then some (T.im (.tup xs)) else none) = some t := hf
  split at hf
  · rename_i hz
    cases hf
    refine rd_rc (md := .walk) st h1 fun lo hi c n Z1 H1 g1 ex => ?_
    subst ex
    refine ⟨?_, fun p0 os hp0 => q _ Z1 _ (g1.new hp0) (XRep.im ?_)⟩
    · rw [List.length_map, List.length_range] at hz
      rw [← sl_eq]; exact hz
    · simp only [Rep]
      exact ⟨p0, _, rfl, ⟨_, upd_same, rfl⟩, RepAll.keep (Keep.new hp0) (fun _ z => z) _ (rgL_rep lo c n)⟩
  · cases hf
theorem em_colL {es : List Expr} {e : Expr} {es' : E} {p pr posr : Pos} (hp : ∀ ta, PA X (e :: es) ta → PE X (.Call (.Name "list" p) [.Call (.Name "range" pr) (e :: es) [] posr] [] pos) (tColL (tRc ta))) (h : SM X tabs cf (e :: es) es') : EM X tabs cf (.Call (.Name "list" p) [.Call (.Name "range" pr) (e :: es) [] posr] [] pos) (.col .list (.bi .range es')) := by
  refine ⟨fun vw ok => Sw.PE.weak (hp _ (h.run ok)) fun σ H Q h => ?_⟩
  obtain ⟨Z, env, t, env', st, he, q⟩ := h
  rw [ev_col] at he
  obtain ⟨xs, env1, h1, he⟩ := Res.bind_ok he
  obtain ⟨hf, rfl⟩ := Res.of_ok he
  have hf : (if xs.length ≤ SL then some (T.nu (.l xs)) else none) = some t := hf
  split at hf
  · rename_i hz
    cases hf
    refine rd_rc (md := .walk) st h1 fun lo hi c n Z1 H1 g1 ex => ?_
    subst ex
    refine ⟨?_, fun p0 hp0 => q _ Z1 _ (g1.new hp0) (XRep.nu (TRep.made st g1 hp0 ⟨_, upd_same, RepAll.keep (Keep.new hp0) (fun _ z => z) _ (rgL_rep lo c n)⟩))⟩
    rw [List.length_map, List.length_range] at hz
    rw [← sl_eq]; exact hz
  · cases hf
end
end Sw

set_option Elab.async false
set_option linter.all false
set_option maxRecDepth 100000
/-! The rules as a printed derivation uses them; all defs of a program at once. -/
namespace Sw
open PySem PySem.Spec PyProof.Rows L2 GenW RZ
section
variable {X : Cx} {tabs : List Addr} {cf : CF} {a b c e : Expr} {es : List Expr} {a' b' c' e' : E} {pos p : Pos}
theorem e_v (i : Nat) {x : Str} (hN : X.N[i]? = some x := by rfl) (hv : Vis X.env.scope x := by first | exact Or.inl rfl | exact Or.inr (Or.inl rfl) | exact Or.inr (Or.inr rfl)) (hd : (x == ("__debug__" : Str)) = false := by decide) (hcd : (x == ("__classdict__" : Str)) = false := by decide) : EM X tabs cf (.Name x pos) (.v i) := em_v hN hv hd hcd
theorem s_cons (ha : EM X tabs cf a a') (hb : SM X tabs cf es b') (hs : starEach (a :: es) X.env = (false, eval a X.env) :: starEach es X.env := by rfl) : SM X tabs cf (a :: es) (.cons a' b') := sm_cons hs ha hb
theorem l_cons (ha : EM X tabs cf a a') (hb : LM X tabs cf es b') (hs : starEach (a :: es) X.env = (false, eval a X.env) :: starEach es X.env := by rfl) : LM X tabs cf (a :: es) (.cons a' b') := lm_cons hs ha hb
theorem a_cons (ha : EM X tabs cf a a') (hb : AM X tabs cf es b') (hn : slotOf a' = none := by rfl) (hs : starEach (a :: es) X.env = (false, eval a X.env) :: starEach es X.env := by rfl) : AM X tabs cf (a :: es) (.cons a' b') := am_cons hn hs ha hb
theorem a_slot (i : Nat) {x : Str} {px : Pos} (hb : AM X tabs cf es b') (hN : X.N[i]? = some x := by rfl) (hv : Vis X.env.scope x := by first | exact Or.inl rfl | exact Or.inr (Or.inl rfl) | exact Or.inr (Or.inr rfl)) (hd : (x == ("__debug__" : Str)) = false := by decide) (hcd : (x == ("__classdict__" : Str)) = false := by decide)
    (hs : starEach (.Name x px :: es) X.env = (false, eval (.Name x px) X.env) :: starEach es X.env := by rfl) : AM X tabs cf (.Name x px :: es) (.cons (.v i) b') := am_slot hs (pe_var hN hv hd hcd) hb
theorem e_len (hm : X.mg "len" = none) (h : LM X tabs cf (e :: es) e') (hg : Gl X "len" := by rfl) (he : starEach (e :: es) X.env = (false, eval e X.env) :: starEach es X.env := by rfl) (hpl : (backTo pos (starEach es X.env)).any (·.1) = false := by rfl) : EM X tabs cf (.Call (.Name "len" p) (e :: es) [] pos) (.bi .len e') :=
  em_bi (fun _ ha => pe_callB (call_len_seq.or call_len_str) hg hm PySem.boot_len ha (by decide) (by decide) he hpl) rfl serves_len h
theorem e_tuple (hm : X.mg "tuple" = none) (h : LM X tabs cf (e :: es) e') (hg : Gl X "tuple" := by rfl) (he : starEach (e :: es) X.env = (false, eval e X.env) :: starEach es X.env := by rfl) (hpl : (backTo pos (starEach es X.env)).any (·.1) = false := by rfl) : EM X tabs cf (.Call (.Name "tuple" p) (e :: es) [] pos) (.bi .tuple e') :=
  em_bi (fun _ ha => pe_callTy call_tupleX hg hm PyProof.Rows.boot_tuple ha (by decide) (by decide) he hpl) rfl serves_tuple h
theorem e_list (hm : X.mg "list" = none) (h : LM X tabs cf (e :: es) e') (hg : Gl X "list" := by rfl) (he : starEach (e :: es) X.env = (false, eval e X.env) :: starEach es X.env := by rfl) (hpl : (backTo pos (starEach es X.env)).any (·.1) = false := by rfl) : EM X tabs cf (.Call (.Name "list" p) (e :: es) [] pos) (.bi .list e') :=
  em_bi (fun _ ha => pe_callTy call_list_of hg hm PyProof.Rows.boot_list ha (by decide) (by decide) he hpl) rfl serves_list h
theorem e_sorted (hm : X.mg "sorted" = none) (h : LM X tabs cf (e :: es) e') (hg : Gl X "sorted" := by rfl) (he : starEach (e :: es) X.env = (false, eval e X.env) :: starEach es X.env := by rfl) (hpl : (backTo pos (starEach es X.env)).any (·.1) = false := by rfl) : EM X tabs cf (.Call (.Name "sorted" p) (e :: es) [] pos) (.bi .sorted e') :=
  em_bi (fun _ ha => pe_callB (cr_sorted.or (cr_sortedPL.or (cr_sortedPT.or cr_sortedIT))) hg hm PyProof.Rows.boot_sorted ha (by decide) (by decide) he hpl) rfl serves_sorted h
theorem e_isi (hm : X.mg "isinstance" = none) (h : LM X tabs cf (e :: es) e') (hg : Gl X "isinstance" := by rfl) (he : starEach (e :: es) X.env = (false, eval e X.env) :: starEach es X.env := by rfl) (hpl : (backTo pos (starEach es X.env)).any (·.1) = false := by rfl) : EM X tabs cf (.Call (.Name "isinstance" p) (e :: es) [] pos) (.bi .isinst e') :=
  em_bi (fun _ ha => pe_callB call_isi hg hm PyProof.Rows.boot_isinstance ha (by decide) (by decide) he hpl) rfl serves_isinst h
theorem e_max (hm : X.mg "max" = none) (hc : X.calm = true) (h : LM X tabs cf (e :: es) e') (hg : Gl X "max" := by rfl) (he : starEach (e :: es) X.env = (false, eval e X.env) :: starEach es X.env := by rfl) (hpl : (backTo pos (starEach es X.env)).any (·.1) = false := by rfl) : EM X tabs cf (.Call (.Name "max" p) (e :: es) [] pos) (.bi .max e') :=
  em_bi (fun _ ha => pe_callB (call_max2 hc) hg hm PyProof.Rows.boot_max ha (by decide) (by decide) he hpl) rfl serves_max h
theorem e_min (hm : X.mg "min" = none) (hc : X.calm = true) (h : LM X tabs cf (e :: es) e') (hg : Gl X "min" := by rfl) (he : starEach (e :: es) X.env = (false, eval e X.env) :: starEach es X.env := by rfl) (hpl : (backTo pos (starEach es X.env)).any (·.1) = false := by rfl) : EM X tabs cf (.Call (.Name "min" p) (e :: es) [] pos) (.bi .min e') :=
  em_bi (fun _ ha => pe_callB (call_min2 hc) hg hm PyProof.Rows.boot_min ha (by decide) (by decide) he hpl) rfl serves_min h
theorem e_repr {l : Nat} (hm : X.mg "repr" = none) (hgd : GdOk true X.A) (hr : Room l X.A) (h : LM X tabs cf (e :: es) e') (hg : Gl X "repr" := by rfl) (he : starEach (e :: es) X.env = (false, eval e X.env) :: starEach es X.env := by rfl) (hpl : (backTo pos (starEach es X.env)).any (·.1) = false := by rfl) : EM X tabs cf (.Call (.Name "repr" p) (e :: es) [] pos) (.bi .repr e') :=
  em_bi (fun _ ha => pe_callB (cr_repr (hgd rfl) hr) hg hm PyProof.Rows.boot_repr ha (by decide) (by decide) he hpl) rfl serves_repr h
theorem e_ix (ha : EM X tabs cf a a') (hb : EM X tabs cf b b') (hp : PlainIx b := by intro _ _; rfl) : EM X tabs cf (.Subscript a b pos) (.ix a' b') := em_ix hp ha hb
theorem b_some (ha : EM X tabs cf a a') (hs : single a' = true := by rfl) : BM X tabs cf (some a) a' := bm_some hs ha
theorem e_ty (x : Str) (n : Nat) (hm : X.mg x = none) (hg : Gl X x := by rfl) (hv : bootBuiltins x = some (.type (tyName n)) := by decide +kernel) (hn : x ≠ "__name__" := by decide) (hd : (x == ("__debug__" : Str)) = false := by decide) : EM X tabs cf (.Name x pos) (.c (.ty n)) := em_ty hg hm hv hn hd
/-! tests -/
theorem t_em (ha : EM X tabs cf a a') (he : ∀ whole, isTrue a X.env whole = (do let v ← whole; standAt a.pos; holding [v] (truthy v)) := by intro _; rfl) : TM X tabs cf a a' := tm_em he ha
theorem t_lt (ha : EM X tabs cf a a') (hb : EM X tabs cf b b') : TM X tabs cf (.Compare a [.Lt] [b] pos) (.cmp .lt a' b') :=
  tm_cmp op_lt (servesI (fun c d r e => by cases c <;> cases d <;> try (cases e; done)
                                           exact ⟨_, _, rfl, rfl, (Option.some.inj e).symm⟩) ⟨(nomatch ·), (nomatch ·)⟩) (nobehind _ (by decide) (by decide)) ha hb
theorem t_le (ha : EM X tabs cf a a') (hb : EM X tabs cf b b') : TM X tabs cf (.Compare a [.LtE] [b] pos) (.cmp .le a' b') :=
  tm_cmp op_le (servesI (fun c d r e => by cases c <;> cases d <;> try (cases e; done)
                                           exact ⟨_, _, rfl, rfl, (Option.some.inj e).symm⟩) ⟨(nomatch ·), (nomatch ·)⟩) (nobehind _ (by decide) (by decide)) ha hb
theorem t_gt (ha : EM X tabs cf a a') (hb : EM X tabs cf b b') : TM X tabs cf (.Compare a [.Gt] [b] pos) (.cmp .gt a' b') :=
  tm_cmp op_gt (servesI (fun c d r e => by cases c <;> cases d <;> try (cases e; done)
                                           exact ⟨_, _, rfl, rfl, (Option.some.inj e).symm⟩) ⟨(nomatch ·), (nomatch ·)⟩) (nobehind _ (by decide) (by decide)) ha hb
theorem t_ge (ha : EM X tabs cf a a') (hb : EM X tabs cf b b') : TM X tabs cf (.Compare a [.GtE] [b] pos) (.cmp .ge a' b') :=
  tm_cmp op_ge (servesI (fun c d r e => by cases c <;> cases d <;> try (cases e; done)
                                           exact ⟨_, _, rfl, rfl, (Option.some.inj e).symm⟩) ⟨(nomatch ·), (nomatch ·)⟩) (nobehind _ (by decide) (by decide)) ha hb
theorem t_eq {l : Nat} (hr : Room l X.A) (ha : EM X tabs cf a a') (hb : EM X tabs cf b b') : TM X tabs cf (.Compare a [.Eq] [b] pos) (.cmp .eq a' b') := tm_cmp (op_eqD hr.units) serves_eq (nobehind _ (by decide) (by decide)) ha hb
theorem t_ne {l : Nat} (hr : Room l X.A) (ha : EM X tabs cf a a') (hb : EM X tabs cf b b') : TM X tabs cf (.Compare a [.NotEq] [b] pos) (.cmp .ne a' b') := tm_cmp (op_neD hr.units) serves_ne (nobehind _ (by decide) (by decide)) ha hb
theorem t_is (ha : EM X tabs cf a a') (hb : EM X tabs cf b b') : TM X tabs cf (.Compare a [.Is] [b] pos) (.cmp .is a' b') := tm_cmp or_is serves_is (nobehind _ (by decide) (by decide)) ha hb
theorem t_isn (ha : EM X tabs cf a a') (hb : EM X tabs cf b b') : TM X tabs cf (.Compare a [.IsNot] [b] pos) (.cmp .isn a' b') := tm_cmp or_isn serves_isn (nobehind _ (by decide) (by decide)) ha hb
theorem e_is (ha : EM X tabs cf a a') (hb : EM X tabs cf b b') : EM X tabs cf (.Compare a [.Is] [b] pos) (.cmp .is a' b') := em_cmp or_is serves_is (nobehind _ (by decide) (by decide)) ha hb
theorem e_isn (ha : EM X tabs cf a a') (hb : EM X tabs cf b b') : EM X tabs cf (.Compare a [.IsNot] [b] pos) (.cmp .isn a' b') := em_cmp or_isn serves_isn (nobehind _ (by decide) (by decide)) ha hb
/-! what is walked -/
theorem i_seq {tg : Expr} (ha : EM X tabs cf a a') (h1 : single a' = true := by rfl) (h2 : ∀ b es, a' = .bi b es → isWalk b = false := by (intro b es h; cases h <;> rfl)) : IM X tabs cf tg a a' := im_seq h1 h2 ha
theorem i_r1 {tg : Expr} (hm : X.mg "range" = none) (h : SM X tabs cf [a] (.cons a' .nil)) (hg : Gl X "range" := by rfl) (hs : starEach [a] X.env = [(false, eval a X.env)] := by rfl) : IM X tabs cf tg (.Call (.Name "range" p) [a] [] pos) (.bi .range (.cons a' .nil)) := im_range1 (fun _ ha => pi_range1 hg hm ha hs) h
theorem i_r2 {tg : Expr} (hm : X.mg "range" = none) (h : SM X tabs cf [a, b] (.cons a' (.cons b' .nil))) (hg : Gl X "range" := by rfl) (hs : starEach [a, b] X.env = [(false, eval a X.env), (false, eval b X.env)] := by rfl) (hs2 : starEach [b] X.env = [(false, eval b X.env)] := by rfl) : IM X tabs cf tg (.Call (.Name "range" p) [a, b] [] pos) (.bi .range (.cons a' (.cons b' .nil))) := im_range2 (fun _ ha => pi_range2 hg hm ha hs hs2) h
theorem i_r3 {tg : Expr} (hm : X.mg "range" = none) (h : SM X tabs cf [a, b, c] (.cons a' (.cons b' (.cons c' .nil)))) (hg : Gl X "range" := by rfl) (hs : starEach [a, b, c] X.env = (false, eval a X.env) :: starEach [b, c] X.env := by rfl) (hpl : (backTo pos (starEach [b, c] X.env)).any (·.1) = false := by rfl) : IM X tabs cf tg (.Call (.Name "range" p) [a, b, c] [] pos) (.bi .range (.cons a' (.cons b' (.cons c' .nil)))) := im_range3 (fun _ ha => pi_range3 hg hm ha hs hpl) h
theorem i_zip {elts : List Expr} {kk : Nat} {tpos : Pos} (hm : X.mg "zip" = none) (h : SM X tabs cf [a, b] (.cons a' (.cons b' .nil))) (hg : Gl X "zip" := by rfl) (hs : starEach [a, b] X.env = (false, eval a X.env) :: starEach [b] X.env := by rfl) (hpl : (backTo pos (starEach [b] X.env)).any (·.1) = false := by rfl) :
    IM X tabs cf (.Tuple elts kk tpos) (.Call (.Name "zip" p) [a, b] [] pos) (.bi .zip (.cons a' (.cons b' .nil))) := im_zip (fun _ ha => pi_zipA hg hm ha hs hpl) h
theorem e_colT {pr posr : Pos} (hm : X.mg "tuple" = none) (hm2 : X.mg "range" = none) (hc : X.calm = true) (h : SM X tabs cf (e :: es) e') (hg : Gl X "tuple" := by rfl) (hg2 : Gl X "range" := by rfl) (hs : starEach (e :: es) X.env = (false, eval e X.env) :: starEach es X.env := by rfl) (hpl : (backTo posr (starEach es X.env)).any (·.1) = false := by rfl)
    (na : starEach [.Call (.Name "range" pr) (e :: es) [] posr] X.env = (false, eval (.Call (.Name "range" pr) (e :: es) [] posr) X.env) :: starEach [] X.env := by rfl) : EM X tabs cf (.Call (.Name "tuple" p) [.Call (.Name "range" pr) (e :: es) [] posr] [] pos) (.col .tuple (.bi .range e')) :=
  em_colT (fun _ ha => pe_colT hc hg hm (prc hg2 hm2 ha hs hpl) na) h
theorem e_colL {pr posr : Pos} (hm : X.mg "list" = none) (hm2 : X.mg "range" = none) (hc : X.calm = true) (h : SM X tabs cf (e :: es) e') (hg : Gl X "list" := by rfl) (hg2 : Gl X "range" := by rfl) (hs : starEach (e :: es) X.env = (false, eval e X.env) :: starEach es X.env := by rfl) (hpl : (backTo posr (starEach es X.env)).any (·.1) = false := by rfl)
    (na : starEach [.Call (.Name "range" pr) (e :: es) [] posr] X.env = (false, eval (.Call (.Name "range" pr) (e :: es) [] posr) X.env) :: starEach [] X.env := by rfl) : EM X tabs cf (.Call (.Name "list" p) [.Call (.Name "range" pr) (e :: es) [] posr] [] pos) (.col .list (.bi .range e')) :=
  em_colL (fun _ ha => pe_colL hc hg hm (prc hg2 hm2 ha hs hpl) na) h
/-! targets -/
theorem g_n (i : Nat) {x : Str} (hN : X.N.Nodup) (hi : X.N[i]? = some x := by rfl) (hx : Loc X.env.scope x := by first | exact Or.inl rfl | exact Or.inr rfl) (hf : X.fn x = true ∨ X.env.scope.names.lookup x = some .local := by first | exact Or.inl rfl | exact Or.inr rfl) : PG X (.Name x pos) (RdG (kx X tabs) (.n i)) := gm_n hN hi hx hf
theorem gs_cons {g1 g2 : G} (h1 : PG X e (RdG (kx X tabs) g1)) (h2 : PGs X es (RdGs (kx X tabs) g2)) (hs : (assignEach (e :: es) X.env).map (·.2) = assign e X.env :: (assignEach es X.env).map (·.2) := by rfl) : PGs X (e :: es) (RdGs (kx X tabs) (.cons g1 g2)) := gms_cons hs h1 h2
theorem g_t {kk n : Nat} {gs : G} (hc : X.calm = true) (h : PGs X es (RdGs (kx X tabs) gs)) (hn : (assignEach es X.env).length = gs.len := by rfl) (hst : (assignEach es X.env).findIdx? (·.1) = none := by rfl) : PG X (.Tuple es kk pos) (RdG (kx X tabs) (.t gs)) := gm_t hc hn hst (fun ds env env' h => gives_len gs ds env env' h) h
/-! statements -/
theorem x_set (i : Nat) {x : Str} {px : Pos} (hN : X.N.Nodup) (h : EM X tabs cf e e') (hi : X.N[i]? = some x := by rfl) (hx : Loc X.env.scope x := by first | exact Or.inl rfl | exact Or.inr rfl) (hs : swapsWith e (some (.Name x px)) pos.line X.env = pure false := by rfl) (hf : X.fn x = true ∨ X.env.scope.names.lookup x = some .local := by first | exact Or.inl rfl | exact Or.inr rfl) :
    SX X tabs cf (.Assign [.Name x px] e pos) (.asg (.n i) e') := sx_set hN hi hx hs hf h
theorem x_asg {kk : Nat} {pt : Pos} {g : G} (hg : PG X (.Tuple es kk pt) (RdG (kx X tabs) g)) (h : EM X tabs cf e e') (hg0 : ∀ i, g ≠ .n i := by (intro i h; cases h)) (hs : swapsWithSole [.Tuple es kk pt] e pos.line X.env = pure false := by rfl) (hw : swappedStores [.Tuple es kk pt] e X.env = pure none := by rfl) (h1 : (assignEach [.Tuple es kk pt] X.env).map (·.2) = [assign (.Tuple es kk pt) X.env] := by rfl) :
    SX X tabs cf (.Assign [.Tuple es kk pt] e pos) (.asg g e') := sx_asg hg0 hs hw h1 hg h
theorem x_ex (h : EM X tabs cf e e') (hs : swapsWith e none pos.line X.env = pure false := by rfl) : SX X tabs cf (.Expr e pos) (.ex e') := sx_ex hs h
theorem x_ret (h : EM X tabs cf e e') (hn : slotOf e' = none := by rfl) : SX X tabs cf (.Return (some e) pos) (.ret e') := sx_ret hn h
theorem x_retv (i : Nat) {x : Str} {px : Pos} (hN : X.N[i]? = some x := by rfl) (hv : Vis X.env.scope x := by first | exact Or.inl rfl | exact Or.inr (Or.inl rfl) | exact Or.inr (Or.inr rfl)) (hd : (x == ("__debug__" : Str)) = false := by decide) (hcd : (x == ("__classdict__" : Str)) = false := by decide) : SX X tabs cf (.Return (some (.Name x px)) pos) (.ret (.v i)) := sx_retv (pe_var hN hv hd hcd)
theorem x_for {tg it : Expr} {body : List Stmt} {g : G} {it' : E} {s : S} (hc : X.calm = true) (hp : PassesOwn (model X.prog X.w) X.A X.env X.xe) (hi : IM X tabs cf tg it it') (hg : PG X tg (RdG (kx X tabs) g)) (hb : BX X tabs cf body s) (hs : ∀ x, foldedSetIterable it X.env x = pure x := by intro _; rfl) : SX X tabs cf (.For tg it body [] pos) (.for g it' s) := sx_for hc hp hs hi hg hb
theorem x_add (i : Nat) {x : Str} {px : Pos} (hN : X.N.Nodup) (h : EM X tabs cf e e') (hi : X.N[i]? = some x := by rfl) (hx : Loc X.env.scope x := by first | exact Or.inl rfl | exact Or.inr rfl) (hf : X.fn x = true ∨ X.env.scope.names.lookup x = some .local := by first | exact Or.inl rfl | exact Or.inr rfl) : SX X tabs cf (.AugAssign (.Name x px) .Add e pos) (.aug i .add e') := sx_aug hN hi hx ip_add aug_add hf h
theorem x_sub (i : Nat) {x : Str} {px : Pos} (hN : X.N.Nodup) (h : EM X tabs cf e e') (hi : X.N[i]? = some x := by rfl) (hx : Loc X.env.scope x := by first | exact Or.inl rfl | exact Or.inr rfl) (hf : X.fn x = true ∨ X.env.scope.names.lookup x = some .local := by first | exact Or.inl rfl | exact Or.inr rfl) : SX X tabs cf (.AugAssign (.Name x px) .Sub e pos) (.aug i .sub e') := sx_aug hN hi hx ip_sub aug_sub hf h
theorem x_mul (i : Nat) {x : Str} {px : Pos} (hN : X.N.Nodup) (h : EM X tabs cf e e') (hi : X.N[i]? = some x := by rfl) (hx : Loc X.env.scope x := by first | exact Or.inl rfl | exact Or.inr rfl) (hf : X.fn x = true ∨ X.env.scope.names.lookup x = some .local := by first | exact Or.inl rfl | exact Or.inr rfl) : SX X tabs cf (.AugAssign (.Name x px) .Mult e pos) (.aug i .mul e') := sx_aug hN hi hx iop_mul aug_mul hf h
theorem x_six (k : Nat) {x : Str} {px pos' : Pos} {i : Expr} {i' : E} (hi : EM X tabs cf i i') (he : EM X tabs cf e e') (hN : X.N[k]? = some x := by rfl) (hv : Vis X.env.scope x := by first | exact Or.inl rfl | exact Or.inr (Or.inl rfl) | exact Or.inr (Or.inr rfl)) (hd : (x == ("__debug__" : Str)) = false := by decide) (hcd : (x == ("__classdict__" : Str)) = false := by decide)
    (hg : ∀ to ti, PE X (.Name x px) to → PE X i ti → PG X (.Subscript (.Name x px) i pos') (gSub to ti rSetL) := by (intro to ti h1 h2; exact pg_sub h1 h2 set_list)) (hs : swapsWithSole [.Subscript (.Name x px) i pos'] e pos.line X.env = pure false := by rfl) (hw : swappedStores [.Subscript (.Name x px) i pos'] e X.env = pure none := by rfl) (h1 : (assignEach [.Subscript (.Name x px) i pos'] X.env).map (·.2) = [assign (.Subscript (.Name x px) i pos') X.env] := by rfl) :
    SX X tabs cf (.Assign [.Subscript (.Name x px) i pos'] e pos) (.six k i' e') := sx_six (pe_var hN hv hd hcd) hi he fun te to ti a1 a2 a3 => ps_asg a1 (hg to ti a2 a3) hs hw h1
end
/-! ### all defs of a program -/
/-- a def that can be called -/
def Fx (gb : Bool) (Pg : Prog) (P : Program) (w : World) (K : PySem.W.Frag) (mg : Str → Option Value) (base : Heap) (tabs : List Addr) (n : Nat) (x : Str) (ps : List Str) (idx : Nat) : Prop :=
  ∃ f fd, mg x = some (.ref f) ∧ PySem.W.keepIn K (.ref f) = true ∧ Binds K fd ps [] ∧ FnG gb P w K mg base (2 * n + 2) f fd ps (spF ⟨K, w, tabs⟩ (callD Pg n) idx)
theorem e_fx {gb : Bool} {Pg : Prog} {X : Cx} {tabs : List Addr} {n idx : Nat} {x : Str} {ps : List Str} {e : Expr} {es : List Expr} {e' : E} {pos p : Pos} (F : Fx gb Pg X.prog X.w X.K X.mg X.base tabs n x ps idx) (hr : Room (2 * n + 2) X.A) (hgd : GdOk gb X.A) (h : AM X tabs (callD Pg n) (e :: es) e') (hg : Gl X x := by rfl) (hdb : (x == ("__debug__" : Str)) = false := by decide)
    (he : starEach (e :: es) X.env = (false, eval e X.env) :: starEach es X.env := by rfl) (hpl : (backTo pos (starEach es X.env)).any (·.1) = false := by rfl) : EM X tabs (callD Pg n) (.Call (.Name x p) (e :: es) [] pos) (.call idx e') := by
  obtain ⟨f, fd, h1, h2, h3, h4⟩ := F
  exact em_call (fun ta ha => pe_callG h4 hr hgd hg h1 h2 h3 ha hdb he hpl) h
/-- no call is served at nought -/
theorem fx_zero {gb : Bool} {Pg : Prog} {P : Program} {w : World} {K : PySem.W.Frag} {mg : Str → Option Value} {base : Heap} {tabs : List Addr} {x : Str} {ps : List Str} {idx : Nat} {f : Addr} {fd : FuncData} (h1 : mg x = some (.ref f)) (h2 : PySem.W.keepIn K (.ref f) = true) (h3 : Binds K fd ps []) : Fx gb Pg P w K mg base tabs 0 x ps idx := by
  refine ⟨f, fd, h1, h2, h3, ⟨fun vs H Q E h => ?_, fun A outer s H args us vs Q E hr hg e0 hb r h => ?_⟩⟩
  · obtain ⟨Z, ws, t, ws', hc, _⟩ := h; cases hc
  · obtain ⟨Z, ws, t, ws', hc, _⟩ := h; cases hc
/-- one call deeper -/
theorem fnG_succ {gb : Bool} {Pg : Prog} {P : Program} {w : World} {K : PySem.W.Frag} {mg : Str → Option Value} {base : Heap} {tabs : List Addr} {n idx : Nat} {x : Str} {N ps : List Str} {f : Addr} {qual : Str} {params : Arguments} {body : List Stmt} {scope : Scope} {dV kV doc pm cdv ct oc : Value} {an od : Option Addr} {osl : Array (Option Value)} {fn : Fn}
    (lk : K.lookup f = some ⟨oc, od, .func (PySem.W.fnOf x qual params body scope dV kV doc pm an cdv ct), osl⟩) (hcd : PySem.W.codeIn K cdv qual = true) (S : FnScope N ps scope)
    (hP : Pg[idx]? = some fn) (hN : N.length = fn.slots) (hA : fn.args ≤ fn.slots) (hps : ps.length = fn.args) (hok : okS fn.body = true)
    (hb : ∀ (A : Around) (outer : List Env) (s : Shared) (H : Hp) (E : XK), Room (2 * n + 3) (cxOf CX0 P w K mg base N qual scope f cdv A outer s H E).A → GdOk gb (cxOf CX0 P w K mg base N qual scope f cdv A outer s H E).A → BX (cxOf CX0 P w K mg base N qual scope f cdv A outer s H E) tabs (callD Pg n) body fn.body) :
    FnG gb P w K mg base (2 * (n + 1) + 2) f (PySem.W.fnOf x qual params body scope dV kV doc pm an cdv ct) ps (spF ⟨K, w, tabs⟩ (callD Pg (n + 1)) idx) := by
  have e : 2 * (n + 1) + 2 = (2 * n + 3) + 1 := by omega
  rw [e]
  refine fnG_of lk hcd S (fun vs H Q E h => ?_) fun A outer s H vs Q E hr hg h => ?_
  · obtain ⟨Z, ws, t, ws', hc, st, _⟩ := h
    have hc : run1 (callD Pg n) fn ws = some (some (t, ws')) := by
      have q : callD Pg (n + 1) idx ws = match Pg[idx]? with | some fn => run1 (callD Pg n) fn ws | none => none := rfl
      rw [q, hP] at hc
      exact hc
    unfold run1 at hc
    split at hc
    · rename_i hl
      have := st.len
      rw [List.length_map] at this
      omega
    · cases hc
  · exact ⟨_, (hb A outer s H E hr hg).run hok, spF_body (cf := callD Pg (n + 1)) (P := Pg) rfl hP hN hA h⟩
end Sw

set_option Elab.async false
set_option linter.all false
set_option maxRecDepth 100000
/-! The end of a law. -/
namespace Sw
open PySem PySem.Spec PyProof.Rows L2 GenW RZ LamX
/-- the code object of the def at f, its table -/
def OwnTab2 (K : PySem.W.Frag) (f : Addr) (h : Heap) : Prop := ∀ (c P : Addr) (o : Obj) (fd : FuncData) (e : Value) (dd : Option Addr) (us : Array Value) (sl : Array (Option Value)), K.lookup f = some o → o.data = .func fd → fd.code = .ref c → K.lookup c = some ⟨e, dd, .fields us, sl⟩ → us[11]? = some (.ref P) →
  h.get? P = some { cls := .none, data := .fields #[] } ∧ PySem.W.CodeHd h c P
theorem tab_of {base : Heap} {mg : Str → Option Value} {c P : Addr} (t : LamX.TabB base mg c P) : GxR.TabB base mg c P := ⟨t.code, t.bm, t.gP⟩
/-- the end, with the tables of all defs -/
theorem walk_sw {l : PySem.W.OpenLaw} {n k : Nat} {q : Program} {loose : List Str} {XP : (Str → Option Value) → Heap → Prop} {YP : World → Heap → Prop} {d : DefRec} {K : Params → PySem.W.Frag} {x : Str}
    (hn : l.most = some n) (hn2 : n ≤ sizeLine) (hdf : d.params.defaults = []) (hr : Room k callerA) (hY : ∀ (w : World) (h : Heap), YP w h → (K w.params).In h)
    (F : ∀ (w : World) (mg : Str → Option Value) (fa : Addr) (h : Heap), YP w h → (K w.params).In h → h.Ns mainGlobals mg → mg d.name = some (.ref fa) →
      (∀ (y : Str) (f : Addr), ((recsOf q).any fun e => e.name == y) = true → mg y = some (.ref f) → OwnTab2 (K w.params) f h) → LawAtS l w (K w.params) CX0 k n x mg fa h) :
    PySem.W.WalkO q loose XP YP l.row.toRowW d [] (fun f vs => PySem.call f vs) := by
  refine Att.attach_callB hn hdf fun w s0 s1 mg mb fa o pm cd doc a vs ns G Y ho hd hcd hmg hobj hints hlen hbits hg => ?_
  have KI := hY w _ Y
  have tabs : ∀ (y : Str) (f : Addr), ((recsOf q).any fun e => e.name == y) = true → mg y = some (.ref f) → OwnTab2 (K w.params) f s1.heap := fun y f hrec hy c Pt o1 fd1 e dd us sl k1 k2 k3 k4 k5 => by
    obtain ⟨r, hm, hr1⟩ := List.any_eq_true.mp hrec
    have hr2 : r.name = y := beq_iff_eq.mp hr1
    obtain ⟨b, o2, fd2, c2, P2, t1, t2, t3, t4, t5, t6⟩ := G.T.tab r hm
    rw [hr2, hy] at t1
    cases t1
    rw [KI _ _ k1] at t2
    cases t2
    rw [k2] at t3
    cases t3
    rw [k3] at t4
    cases t4
    have hcd := PySem.W.CodeHd.of t5 t6
    obtain ⟨⟨oc, vc, u1, _, u3, u4⟩, hPt⟩ := t6
    rw [KI _ _ k4] at u1
    cases u1
    cases u3
    rw [k5] at u4
    cases u4
    exact ⟨hPt, hcd⟩
  obtain ⟨fd, cs, sp, a1, a2, a3, a4, a5, a6⟩ := F w mg fa _ Y KI G.T.g hmg tabs
  exact law_callTs KI G.T.g G.T.b G.T.builtins G.T.nolimit hg a1 a2 a3 G.T.bmain hobj hints (Nat.le_trans hlen hn2) hr a6 a4 (fun H hH hS => a5 H a ns hlen hbits hH hS) fun H e s' h => h
theorem repInts {k : Kx} {Z : Addr → Prop} {H : Hp} : ∀ ns : List Int, RepAll k Z H (ns.map D.int) (ns.map V.int)
  | [] => rfl
  | n :: r => by
    simp only [List.map_cons, RepAll]
    exact ⟨_, _, rfl, by simp only [Rep], repInts r⟩
/-- the law's promise, of a script -/
theorem sp_law {Pg : Prog} {K : PySem.W.Frag} {w : World} {tabs : List Addr} {n idx : Nat} {H : Hp} {a : Addr} {ns : List Int} {E : XK} (hT : ∀ P ∈ tabs, GxR.TabG H P) (hS : SqL K H a (ns.map V.int)) (h : ∃ ws', callD Pg n idx [.im (.lst (ns.map .int))] = some (some (.im (.bl true), ws'))) :
    spF ⟨K, w, tabs⟩ (callD Pg n) idx [.ref a] H (fun v _ => v = .bl true) E := by
  obtain ⟨ws', h⟩ := h
  have mk : ∀ Z : Addr → Prop, (∀ b, Z b → H b ≠ none) → ((Z a ∧ Rd H a (.lst (ns.map V.int))) ∨ KL K a (ns.map V.int)) → spF ⟨K, w, tabs⟩ (callD Pg n) idx [.ref a] H (fun v _ => v = .bl true) E := fun Z hz hs => by
    refine ⟨Z, _, _, ws', h, ⟨rfl, fun i d e => ?_, fun i ds e => ?_, fun i b o e => ?_, fun i j b h1 h2 => ?_, hT, hz⟩, fun i ds e => ?_, fun v Z' H' _ r => ?_⟩
    · cases i with
      | zero =>
        cases e
        refine ⟨.ref a, rfl, ?_⟩
        simp only [Rep]
        exact ⟨a, _, rfl, hs, repInts ns⟩
      | succ i => simp at e
    · cases i with
      | zero => cases e
      | succ i => simp at e
    · cases i with
      | zero => cases e
      | succ i => simp at e
    · obtain ⟨⟨b0, o0, e⟩, _⟩ := h1
      cases i with
      | zero => cases e
      | succ i => simp at e
    · cases i with
      | zero => cases e
      | succ i => simp at e
    · have r : Rep (⟨K, w, tabs⟩ : Kx) Z' H' (.bl true) v := r
      simpa only [Rep] using r
  rcases hS with hS | hS
  · refine mk (fun b => b = a) (fun b e => ?_) (.inl ⟨rfl, hS⟩)
    subst e
    rcases hS with q | ⟨o, q⟩ <;> rw [q] <;> simp
  · exact mk (fun _ => False) (fun b e => e.elim) (.inr hS)
/-- a def as the top has written it -/
structure DfOk (K : PySem.W.Frag) (mg : Str → Option Value) (st : Stmt) (x : Str) (ps : List Str) (f : Addr) (cdv : Value) : Prop where
  ex : ∃ (oc kV doc pm ct : Value) (od an : Option Addr) (osl : Array (Option Value)), mg x = some (.ref f) ∧ K.lookup f = some ⟨oc, od, .func (PySem.W.fnOf x x (defArgs st) (defBody st) (defScope st) .none kV doc pm an cdv ct), osl⟩ ∧ PySem.W.codeIn K cdv x = true ∧ PySem.W.keepIn K (.ref f) = true ∧
    Binds K (PySem.W.fnOf x x (defArgs st) (defBody st) (defScope st) .none kV doc pm an cdv ct) ps []
section
variable {gb : Bool} {Pg : Prog} {P : Program} {w : World} {K : PySem.W.Frag} {mg : Str → Option Value} {base : Heap} {tabs : List Addr} {n idx : Nat} {x : Str} {N ps : List Str} {f : Addr} {st : Stmt} {cdv : Value} {fn : Fn}
theorem DfOk.zero (d : DfOk K mg st x ps f cdv) : Fx gb Pg P w K mg base tabs 0 x ps idx := by
  obtain ⟨oc, kV, doc, pm, ct, od, an, osl, h1, lk, hc, h2, h3⟩ := d.ex
  exact fx_zero h1 h2 h3
theorem DfOk.succ (d : DfOk K mg st x ps f cdv) (S : FnScope N ps (defScope st)) (hP : Pg[idx]? = some fn) (hN : N.length = fn.slots) (hA : fn.args ≤ fn.slots) (hps : ps.length = fn.args) (hok : okS fn.body = true)
    (hb : ∀ (A : Around) (outer : List Env) (s : Shared) (H : Hp) (E : XK), Room (2 * n + 3) (cxOf CX0 P w K mg base N x (defScope st) f cdv A outer s H E).A → GdOk gb (cxOf CX0 P w K mg base N x (defScope st) f cdv A outer s H E).A → BX (cxOf CX0 P w K mg base N x (defScope st) f cdv A outer s H E) tabs (callD Pg n) (defBody st) fn.body) :
    Fx gb Pg P w K mg base tabs (n + 1) x ps idx := by
  obtain ⟨oc, kV, doc, pm, ct, od, an, osl, h1, lk, hc, h2, h3⟩ := d.ex
  exact ⟨f, _, h1, h2, h3, fnG_succ lk hc S hP hN hA hps hok hb⟩
end
end Sw

set_option Elab.async false
set_option linter.all false
set_option maxRecDepth 100000
/-! Methods of lists, sums, as a printed derivation uses them. -/
namespace Sw
open PySem PySem.Spec PyProof.Rows L2 GenW RZ
section
variable {X : Cx} {tabs : List Addr} {cf : CF} {a b c e : Expr} {es : List Expr} {a' b' c' e' : E} {pos p : Pos}
theorem e_append (k : Nat) {x : Str} {px apos cpos : Pos} (he : SM X tabs cf (e :: es) e') (hN : X.N[k]? = some x := by rfl) (hv : Vis X.env.scope x := by first | exact Or.inl rfl | exact Or.inr (Or.inl rfl) | exact Or.inr (Or.inr rfl)) (hd : (x == ("__debug__" : Str)) = false := by decide) (hcd : (x == ("__classdict__" : Str)) = false := by decide)
    (hbase : attributeBase (.Name x px) "append" X.env (eval (.Name x px) X.env) = eval (.Name x px) X.env := by rfl)
    (hfew : ((backTo cpos (starEach (e :: es) X.env)).all (fun x => !x.1) && (backToKw cpos (keywordEach [] X.env)).all (fun x => x.1.isSome)
      && decide ((e :: es).length + ([] : List Keyword).length + (if ([] : List Keyword).isEmpty then 0 else 1) < 30)) = true := by rfl)
    (hline : (apos.endLine == cpos.line) = true := by rfl) (hs : starEach (e :: es) X.env = (false, eval e X.env) :: starEach es X.env := by rfl) (hplain : (backTo cpos (starEach es X.env)).any (·.1) = false := by rfl) :
    EM X tabs cf (.Call (.Attribute (.Name x px) "append" apos) (e :: es) [] cpos) (.mt .append (.v k) e') :=
  em_append (fun to ta h1 h2 => pe_bm PySem.F.plainAttrs_list PySem.F.slot_list_append PySem.F.type_list_append L2.mt_append h1 h2 hbase hfew hline hs hplain) (pe_var hN hv hd hcd) he
theorem e_pop (k : Nat) {x : Str} {px apos cpos : Pos} (he : SM X tabs cf (e :: es) e') (hN : X.N[k]? = some x := by rfl) (hv : Vis X.env.scope x := by first | exact Or.inl rfl | exact Or.inr (Or.inl rfl) | exact Or.inr (Or.inr rfl)) (hd : (x == ("__debug__" : Str)) = false := by decide) (hcd : (x == ("__classdict__" : Str)) = false := by decide)
    (hbase : attributeBase (.Name x px) "pop" X.env (eval (.Name x px) X.env) = eval (.Name x px) X.env := by rfl)
    (hfew : ((backTo cpos (starEach (e :: es) X.env)).all (fun x => !x.1) && (backToKw cpos (keywordEach [] X.env)).all (fun x => x.1.isSome)
      && decide ((e :: es).length + ([] : List Keyword).length + (if ([] : List Keyword).isEmpty then 0 else 1) < 30)) = true := by rfl)
    (hline : (apos.endLine == cpos.line) = true := by rfl) (hs : starEach (e :: es) X.env = (false, eval e X.env) :: starEach es X.env := by rfl) (hplain : (backTo cpos (starEach es X.env)).any (·.1) = false := by rfl) :
    EM X tabs cf (.Call (.Attribute (.Name x px) "pop" apos) (e :: es) [] cpos) (.mt .pop (.v k) e') :=
  em_pop (fun to ta h1 h2 => pe_bm PySem.F.plainAttrs_list PySem.F.slot_list_pop PySem.F.type_list_pop (fun pins s σ H x xs v us Q I r1 r2 q => q.elim (L2.mt_pop pins s σ H x xs v us Q I r1 r2) (L2.mt_popAt pins s σ H x xs v us Q I r1 r2)) h1 h2 hbase hfew hline hs hplain) (pe_var hN hv hd hcd) he
theorem e_sum (hm : X.mg "sum" = none) (hc : X.calm = true) (h : LM X tabs cf (e :: es) e') (hg : Gl X "sum" := by rfl) (he : starEach (e :: es) X.env = (false, eval e X.env) :: starEach es X.env := by rfl) (hpl : (backTo pos (starEach es X.env)).any (·.1) = false := by rfl) : EM X tabs cf (.Call (.Name "sum" p) (e :: es) [] pos) (.bi .sum e') :=
  em_bi (fun _ ha => pe_callB ((cr_sum hc).or (cr_sumT hc)) hg hm PyProof.Rows.boot_sum ha (by decide) (by decide) he hpl) rfl serves_sum h
end
end Sw

set_option Elab.async false
set_option linter.all false
set_option maxRecDepth 100000
set_option maxHeartbeats 1000000
/-! The end of a law whose defs ask for texts of tuples: the def is run where no repr is under way. -/
namespace Sw
open PySem PySem.Spec PyProof.Rows L2 GenW RZ
/-- what is followed when a law begins: the tables, and the script where the written part has it not -/
def beginHp (K : PySem.W.Frag) (T : List Addr) (a : Addr) (ob : Obj) (xs : List V) : Hp := fun b =>
  if b ∈ T then some (.tbl #[]) else if b = a ∧ (K.lookup a).isNone = true then some (.frz ob (.lst xs)) else none
section
variable {K : PySem.W.Frag} {T : List Addr} {a : Addr} {ob : Obj} {xs : List V}
theorem beginHp_of {b : Addr} {u : HO} (h : beginHp K T a ob xs b = some u) : (b ∈ T ∧ u = .tbl #[]) ∨ (b = a ∧ K.lookup b = none ∧ u = .frz ob (.lst xs)) := by
  unfold beginHp at h
  split at h
  · rename_i hb; cases h; exact .inl ⟨hb, rfl⟩
  · split at h
    · rename_i hb
      cases h
      refine .inr ⟨hb.1, ?_, rfl⟩
      rw [hb.1]
      exact Option.isNone_iff_eq_none.mp hb.2
    · cases h
theorem beginHp_tab {b : Addr} (h : b ∈ T) : beginHp K T a ob xs b = some (.tbl #[]) := if_pos h
theorem beginHp_seq (h : a ∉ T) (hk : K.lookup a = none) : beginHp K T a ob xs a = some (.frz ob (.lst xs)) := by
  unfold beginHp
  rw [if_neg h, if_pos ⟨rfl, by rw [hk]; rfl⟩]
end
theorem run_law {P : Program} {w : World} {K : PySem.W.Frag} {mg mb : Str → Option Value} {k : Nat} {fa a : Addr} {cs : List (Addr × Addr)} {fd : FuncData} {x : Str} {sp : Sp} {t0 : Shared} {us : List Value} {ns : List Int}
    (kin : K.In t0.heap) (top : t0.heap.Ns mainGlobals mg) (bts : t0.heap.Ns builtinsNs mb) (bsame : ∀ y : Str, y ≠ "__name__" → mb y = bootBuiltins y) (nlim : t0.heap.NoLimit) (ng : t0.gens = #[])
    (tabs : ∀ q ∈ cs, t0.heap.get? q.2 = some { cls := .none, data := .fields #[] }) (tfree : ∀ q ∈ cs, K.lookup q.2 = none) (heads : ∀ q ∈ cs, PySem.W.CodeHd t0.heap q.1 q.2)
    (bmod : ∃ (m : Addr) (om : Obj), mg "__builtins__" = some (.ref m) ∧ m ≠ builtinsNs ∧ t0.heap.get? m = some om ∧ om.cls = .type "module" ∧ om.dict = some builtinsNs ∧ om.data = .plain)
    (scr : t0.heap.get? a = some { cls := .type "list", data := .seq us.toArray }) (iv : IntsAre us ns) (few : ns.length ≤ sizeLine) (room : Room k callerA)
    (F : ∀ bs : Heap, K.In bs → bs.Ns mainGlobals mg → (∀ q ∈ cs, LamX.TabB bs mg q.1 q.2) → FnG true P w K mg bs k fa fd [x] sp) (bnd : ∀ (s : Shared) (u : Value), BindsTo s fd ⟨[u], []⟩ [(x, u)])
    (want : ∀ H : Hp, (∀ q ∈ cs, H q.2 = some (.tbl #[])) → SqL K H a (ns.map V.int) → sp [.ref a] H (fun v _ => v = .bl true) fun _ _ _ => False) :
    codeAny (model P w) callerA (.call (.ref fa) ⟨[.ref a], []⟩) (fun r t => r = .ok (.ret (.bool true)) ∧ OldK t0.heap t.heap ∧ t.os = t0.os ∧ AllBare t.gens) t0 := by
  have vint := vals_ints iv
  generalize hT : cs.map (·.2) = T
  have inT : ∀ q ∈ cs, q.2 ∈ T := fun q hq => by rw [← hT]; exact List.mem_map_of_mem hq
  have ofT : ∀ b ∈ T, ∃ q ∈ cs, q.2 = b := fun b hb => by rw [← hT] at hb; exact List.mem_map.mp hb
  have tabT : ∀ b ∈ T, t0.heap.get? b = some { cls := .none, data := .fields #[] } := fun b hb => by
    obtain ⟨q, hq, rfl⟩ := ofT b hb
    exact tabs q hq
  have na : a ∉ T := fun z => by have := tabT a z; rw [scr] at this; cases this
  generalize hH : beginHp K T a { cls := .type "list", data := .seq us.toArray } (ns.map V.int) = H
  have hcase : ∀ {b u}, H b = some u → (b ∈ T ∧ u = .tbl #[]) ∨ (b = a ∧ K.lookup b = none ∧ u = .frz { cls := .type "list", data := .seq us.toArray } (.lst (ns.map V.int))) := fun {b u} h => by
    rw [← hH] at h; exact beginHp_of h
  have htab : ∀ q ∈ cs, H q.2 = some (.tbl #[]) := fun q hq => by rw [← hH]; exact beginHp_tab (inT q hq)
  have hseq : SqL K H a (ns.map V.int) := by
    cases hk : K.lookup a with
    | none => exact .inl (.inr ⟨_, by rw [← hH]; exact beginHp_seq na hk⟩)
    | some o2 =>
      have e := kin a o2 hk
      rw [scr] at e
      cases e
      exact .inr ⟨_, us.toArray, _, hk, rfl, rfl, rfl, by rw [List.size_toArray, iv.length]; exact few, by simpa using vint⟩
  have held : HOk P w H t0.heap := fun b u h => by
    rcases hcase h with ⟨hb, rfl⟩ | ⟨rfl, _, rfl⟩
    · exact tabT b hb
    · exact ⟨scr, by rw [List.length_map]; exact few, us, _, vint, scr⟩
  have loose : ∀ {b o}, t0.heap.get? b = some o → (∀ z n, o.data ≠ .seq z n) → o.data ≠ .fields #[] → H b = none := fun {b o} e n1 n2 => by
    cases h : H b with
    | none => rfl
    | some u =>
      rcases hcase h with ⟨hb, _⟩ | ⟨rfl, _⟩
      · rw [tabT b hb] at e; cases e; exact absurd rfl n2
      · rw [scr] at e; cases e; exact absurd rfl (n1 _ _)
  have stay : ∀ {b o}, t0.heap.get? b = some o → (∀ z n, o.data ≠ .seq z n) → o.data ≠ .fields #[] → (hidT t0.heap H).get? b = some o := fun e n1 n2 => hidT_get e (loose e n1 n2)
  have nsk : ∀ {b m}, t0.heap.Ns b m → (hidT t0.heap H).Ns b m := fun {b m} h => by
    obtain ⟨o, es, ep, e, d, r⟩ := h
    exact ⟨o, es, ep, stay e (by rw [d]; intro _ _ z; cases z) (by rw [d]; intro z; cases z), d, r⟩
  have kin2 : K.In (hidT t0.heap H) := fun b o e => hidT_get (kin b o e) (by
    cases h : H b with
    | none => rfl
    | some u =>
      rcases hcase h with ⟨hb, _⟩ | ⟨_, hk, _⟩
      · obtain ⟨q, hq, rfl⟩ := ofT b hb
        rw [tfree q hq] at e; cases e
      · rw [hk] at e; cases e)
  obtain ⟨ml, l1, l2⟩ := nlim
  have md : L2.Mod K mg (hidT t0.heap H) := ⟨kin2, nsk top, ⟨mb, nsk bts, bsame⟩, ⟨ml, nsk l1, l2⟩⟩
  have tb : ∀ q ∈ cs, LamX.TabB (hidT t0.heap H) mg q.1 q.2 := fun q hq => by
    obtain ⟨o, es, ep, e, d, _⟩ := top
    constructor
    · obtain ⟨oc, cv, c1, c2, c3, c4, c5, c6, c7, g1, g2, g3, g4, rest⟩ := heads q hq
      refine ⟨oc, cv, c1, c2, c3, c4, c5, c6, c7, stay g1 (by rw [g3]; intro _ _ z; cases z) (fun z => ?_), g2, g3, g4, rest⟩
      rw [g3] at z
      cases z
      simp at g4
    · obtain ⟨m, om, m1, m2, m3, m4, m5, m6⟩ := bmod
      refine ⟨m, om, m1, m2, fun z => ?_, fun z => ?_, stay m3 (by rw [m6]; intro _ _ z; cases z) (by rw [m6]; intro z; cases z), m4, m5, m6⟩
      · rw [z, e] at m3; cases m3; rw [d] at m6; cases m6
      · rw [z, tabs q hq] at m3; cases m3; cases m6
    · intro z
      rw [z, tabs q hq] at e; cases e; cases d
  have env : Env0 P w K mg (hidT t0.heap H) callerA [] t0 H := ⟨rfl, md, fun b o e => of_hidT e, Nat.le_of_eq (hidT_size _ _), trivial, fun b hb => (by cases hb), held, .of_eq ng⟩
  have ran := (F _ kin2 (nsk top) tb).run callerA [] t0 H ⟨[.ref a], []⟩ [.ref a] [.ref a] _ _ room (fun _ => rfl) env (bnd t0 (.ref a)) (.cons rfl .nil) (want H htab hseq)
  refine codeAny_mono ran fun r t h => ?_
  match r, h with
  | .error _, h => exact h.elim
  | .ok .next, h => exact h.elim
  | .ok .brk, h => exact h.elim
  | .ok .cont, h => exact h.elim
  | .ok (.ret u), h =>
    obtain ⟨v, H2, o1, o2, chg, held2, rv, hv⟩ := h
    have hv : v = .bl true := hv
    subst hv
    obtain rfl : u = Value.bool true := rv
    have same : ∀ b o, b ∉ T → t0.heap.get? b = some o → t.heap.get? b = some o := fun b o hb e => by
      cases h : H b with
      | none => exact chg.keep b o e h (by intro z; cases z) (by simp)
      | some u =>
        rcases hcase h with ⟨hb2, _⟩ | ⟨rfl, _, rfl⟩
        · exact absurd hb2 hb
        · rw [scr] at e
          cases e
          exact (held2 _ _ (chg.frzs _ _ _ h)).1
    have more : ∀ b ∈ T, ∃ ps, t.heap.get? b = some { cls := .none, data := .fields ps } := fun b hb => by
      obtain ⟨q, hq, rfl⟩ := ofT b hb
      obtain ⟨ps, h2⟩ := chg.tbls q.2 #[] (htab q hq)
      exact ⟨_, held2 q.2 _ h2⟩
    refine ⟨rfl, ⟨fun b o e => ?_, fun b o e => ?_⟩, o1, o2⟩
    · by_cases hb : b ∈ T
      · obtain ⟨ps, h2⟩ := more b hb
        obtain ⟨q, hq, rfl⟩ := ofT b hb
        rw [tabs q hq] at e
        cases e
        exact .inr (.inl ⟨((heads q hq).tab (tabs q hq)).isCodeTable, rfl, #[], ps, rfl, by rw [Array.empty_append]; exact h2⟩)
      · exact .inl (same b o hb e)
    · by_cases hb : b ∈ T
      · obtain ⟨ps, h2⟩ := more b hb
        exact ⟨_, h2⟩
      · exact ⟨o, same b o hb e⟩
/-- what the end asks of a law's def -/
def LawG (l : PySem.W.OpenLaw) (w : World) (K : PySem.W.Frag) (k n : Nat) (x : Str) (mg : Str → Option Value) (fa : Addr) (h : Heap) : Prop :=
  ∃ (fd : FuncData) (cs : List (Addr × Addr)) (sp : Sp), (∀ q ∈ cs, h.get? q.2 = some { cls := .none, data := .fields #[] }) ∧ (∀ q ∈ cs, K.lookup q.2 = none) ∧ (∀ q ∈ cs, PySem.W.CodeHd h q.1 q.2) ∧ (∀ (s : Shared) (u : Value), BindsTo s fd ⟨[u], []⟩ [(x, u)]) ∧
    (∀ (H : Hp) (a : Addr) (ns : List Int), ns.length ≤ n → (∀ z ∈ ns, Builtin.Int.intBits z ≤ 1048576) → (∀ q ∈ cs, H q.2 = some (.tbl #[])) → SqL K H a (ns.map V.int) → sp [.ref a] H (fun v _ => v = .bl true) fun _ _ _ => False) ∧
    ∀ bs : Heap, K.In bs → bs.Ns mainGlobals mg → (∀ q ∈ cs, LamX.TabB bs mg q.1 q.2) → FnG true l.prog w K mg bs k fa fd [x] sp
/-- the end, guards asked -/
theorem walk_sg {l : PySem.W.OpenLaw} {n k : Nat} {q : Program} {loose : List Str} {XP : (Str → Option Value) → Heap → Prop} {YP : World → Heap → Prop} {d : DefRec} {K : Params → PySem.W.Frag} {x : Str}
    (hn : l.most = some n) (hn2 : n ≤ sizeLine) (hdf : d.params.defaults = []) (hr : Room k callerA) (hY : ∀ (w : World) (h : Heap), YP w h → (K w.params).In h)
    (F : ∀ (w : World) (mg : Str → Option Value) (fa : Addr) (h : Heap), YP w h → (K w.params).In h → h.Ns mainGlobals mg → mg d.name = some (.ref fa) →
      (∀ (y : Str) (f : Addr), ((recsOf q).any fun e => e.name == y) = true → mg y = some (.ref f) → OwnTab2 (K w.params) f h) → LawG l w (K w.params) k n x mg fa h) :
    PySem.W.WalkO q loose XP YP l.row.toRowW d [] (fun f vs => PySem.call f vs) := by
  refine Att.attach_callB hn hdf fun w s0 s1 mg mb fa o pm cd doc a vs ns G Y ho hd hcd hmg hobj hints hlen hbits hg => ?_
  have KI := hY w _ Y
  have tabs : ∀ (y : Str) (f : Addr), ((recsOf q).any fun e => e.name == y) = true → mg y = some (.ref f) → OwnTab2 (K w.params) f s1.heap := fun y f hrec hy c Pt o1 fd1 e dd us sl k1 k2 k3 k4 k5 => by
    obtain ⟨r, hm, hr1⟩ := List.any_eq_true.mp hrec
    have hr2 : r.name = y := beq_iff_eq.mp hr1
    obtain ⟨b, o2, fd2, c2, P2, t1, t2, t3, t4, t5, t6⟩ := G.T.tab r hm
    rw [hr2, hy] at t1
    cases t1
    rw [KI _ _ k1] at t2
    cases t2
    rw [k2] at t3
    cases t3
    rw [k3] at t4
    cases t4
    have hcd := PySem.W.CodeHd.of t5 t6
    obtain ⟨⟨oc, vc, u1, _, u3, u4⟩, hPt⟩ := t6
    rw [KI _ _ k4] at u1
    cases u1
    cases u3
    rw [k5] at u4
    cases u4
    exact ⟨hPt, hcd⟩
  obtain ⟨fd, cs, sp, a1, a2, a3, a4, a5, a6⟩ := F w mg fa _ Y KI G.T.g hmg tabs
  exact run_law KI G.T.g G.T.b G.T.builtins G.T.nolimit hg a1 a2 a3 G.T.bmain hobj hints (Nat.le_trans hlen hn2) hr a6 a4 fun H hH hS => a5 H a ns hlen hbits hH hS
end Sw

set_option Elab.async false
set_option linter.all false
set_option maxRecDepth 100000
/-! A name that is read to be kept, where what follows may touch its slot: written as the one item of a tuple. -/
namespace Sw
open PySem PySem.Spec PyProof.Rows L2 GenW RZ
section
variable {X : Cx} {tabs : List Addr} {cf : CF} {e : Expr}
theorem rdV_keep {i : Nat} {env env' : En} {t : T} (h : rdV false i env = .ok t env') : ∃ d, t = .im d := by
  unfold rdV at h
  split at h
  · cases h; exact ⟨_, rfl⟩
  · cases h; exact ⟨_, rfl⟩
  · cases h; exact ⟨_, rfl⟩
  · cases h
  · cases h
theorem em_vk {i : Nat} (h : EM X tabs cf e (.v i)) : EM X tabs cf e (.ix (.tup (.cons (.v i) .nil)) (.c (.int 0))) := by
  refine ⟨fun vw ok => Sw.PE.weak (h.run false rfl) fun σ H Q hq => ?_⟩
  obtain ⟨Z, env, t, env', st, he, q⟩ := hq
  rw [ev_ix, ev_tup, evs_cons] at he
  obtain ⟨x, env1, h1, he⟩ := Res.bind_ok he
  obtain ⟨ds, env2, h2, h3⟩ := Res.bind_ok h1
  obtain ⟨y, env3, h4, h5⟩ := Res.bind_ok h2
  obtain ⟨d, rfl⟩ := rdV_keep ((ev_v (cf := cf)).symm.trans h4)
  cases h5
  cases h3
  cases he
  refine ⟨Z, env, _, _, st, h4, fun v Z1 H1 g r => q v Z1 H1 (g.mono fun j hj => ?_) (.im r.t)⟩
  simp only [tou, List.append_nil]
  exact hj
end
end Sw

set_option Elab.async false
set_option linter.all false
set_option maxRecDepth 100000
set_option maxHeartbeats 1000000
/-! enumerate of a tuple or a list. -/
namespace Sw
open PySem PySem.Spec PyProof.Rows L2 GenW RZ
/-- enumerate(v) of one argument, v told by how it begins -/
theorem enumNew1 {v : Value} {o : Obj} {W : Heap → Prop} (B : Begins v o W) :
    Meets (Builtin.«enumerate.__new__» ⟨[.type "enumerate", v], []⟩) (fun _ R s => W s.heap ∧
      R (.ok (.ret (.ref (s.heap.push o).objs.size))) { s with heap := (s.heap.push o).push { cls := .type "enumerate", data := .fields #[.none, .bool false, .ref s.heap.objs.size, rawInt 0, .none, .none] } }) :=
  .of_wp fun prog w A R s h => by
    obtain ⟨hp, g, d, tk, os⟩ := s
    obtain ⟨h1, h⟩ := h
    have hsub := sub_enumerate
    have it1 : ∀ {A' : Around} {E : Value → Shared → Prop} {Q : Value → Shared → Prop}, Q (.ref hp.objs.size) ⟨hp.push o, g, d, tk, os⟩ → wpAny (model prog w) A' (pyIter v) Q E ⟨hp, g, d, tk, os⟩ :=
      fun q => B.iter prog w _ _ ⟨hp, g, d, tk, os⟩ _ h1 q
    wp_walk using it1
    refine wpAny_stack_any fun st => wpAny_pure ?_
    split
    · rename_i c _ _ _ _ _
      cases (c == Value.type "enumerate") <;> (wp_walk using it1; exact ⟨_, rfl, h⟩)
    · wp_walk using it1
      exact ⟨_, rfl, h⟩
theorem enumCall1 {prog : Program} {w : World} {A : Around} {E : Value → Shared → Prop} {s : Shared} {v : Value} {o : Obj} {W : Heap → Prop} {Q : Value → Shared → Prop} (B : Begins v o W) (h1 : W s.heap)
    (h : ∀ h2, IsEnum h2 (s.heap.objs.size + 1) s.heap.objs.size 0 .none → h2.get? s.heap.objs.size = some o → (∀ b u, s.heap.get? b = some u → h2.get? b = some u) → Q (.ref (s.heap.objs.size + 1)) { s with heap := h2 }) :
    wpAny (model prog w) A (call (.type "enumerate") [v]) Q E s := by
  have two : (s.heap.push o).objs.size = s.heap.objs.size + 1 := Heap.size_push ..
  refine callType_new F.called_enumerate (by decide) (F.typeCall_enumerate_1 _) (F.newCall_enumerate_1 _) (fun ob => F.args_object_init_2 ob _) F.entry_enumerate_new (enumNew1 B) ⟨h1, ?_⟩
  show _ ∧ _
  rw [two]
  have at1 := Heap.get?_push_size (s.heap.push o) (o := { cls := .type "enumerate", data := .fields #[.none, .bool false, .ref s.heap.objs.size, rawInt 0, .none, .none] }) rfl
  rw [two] at at1
  exact ⟨⟨_, at1, rfl⟩, h _ at1 (Heap.get?_push_of_some _ (Heap.get?_push_size _ B.free)) fun b u x => Heap.get?_push_of_some _ (Heap.get?_push_of_some _ x)⟩
/-- the tuple at a as it stands at each turn, its items counted, in new pairs -/
def ItnT (K : PySem.W.Frag) (a : Addr) : It where
  go := fun i H => ∃ (xs : List V) (x : V), SqT K H a xs ∧ xs[i]? = some x
  yld := fun i H v H' => ∃ T x, v = .ref T ∧ H T = none ∧ H' = upd H T (.tup [.int (i : Nat), x]) ∧ ∀ xs, SqT K H a xs → xs[i]? = some x
  stop := fun i H => ∃ xs : List V, SqT K H a xs ∧ xs.length ≤ i
/-- how the two cells stand ahead of turn i -/
def EnT (a e it : Addr) (i : Nat) (h : Heap) : Prop := (∃ old, IsEnum h e it ((i : Nat) : Int) old) ∧ h.IsTupleIter it a i ∧ e ≠ it ∧ e ≠ a ∧ a ≠ it
theorem EnT.kept {a e it : Addr} {i : Nat} {h h2 : Heap} (x : EnT a e it i h) (k : ∀ b ∈ [e, it], ∀ o, h.get? b = some o → h2.get? b = some o) : EnT a e it i h2 := by
  obtain ⟨⟨old, x1⟩, x2, x3⟩ := x
  exact ⟨⟨old, k e (by simp) _ x1⟩, x2.at fun o q => k it (by simp) o q, x3⟩
theorem EnT.objs {a e it : Addr} {i : Nat} {h : Heap} (x : EnT a e it i h) : ∀ b ∈ [e, it], ∃ o, h.get? b = some o ∧ ∀ v, o.data ≠ .cell v := by
  obtain ⟨⟨old, x1⟩, ⟨o, x2, _, x3⟩, _⟩ := x
  intro b hb
  simp only [List.mem_cons, List.not_mem_nil, or_false] at hb
  rcases hb with rfl | rfl
  · exact ⟨_, x1, fun _ z => nomatch z⟩
  · exact ⟨o, x2, fun _ z => by rw [x3] at z; cases z⟩
theorem EnT.low {a e it : Addr} {i : Nat} {h : Heap} (x : EnT a e it i h) {b : Addr} (hb : b ∈ [e, it]) : b < h.objs.size := by
  obtain ⟨o, q, _⟩ := x.objs b hb
  exact Heap.lt_size q
theorem turnEnT {P : Program} {w : World} {K : PySem.W.Frag} {elts : List Expr} {kk : Nat} {tp : Pos} (a e it : Addr) : Turn P w K (.Tuple elts kk tp) (ItnT K a) [e, it] e (EnT a e it) := by
  refine ⟨by simp, fun i h x => x.objs, fun i h h2 x k => x.kept k, ?_, ?_, fun A i s Q E x q => ?_⟩
  · intro X rP rw' rK calm i pins s σ H E I fp x g
    subst rP rw' rK
    have low : ∀ b ∈ [e, it], b < s.heap.objs.size := fun b hb => x.low hb
    obtain ⟨⟨old, en⟩, ti, n1, n2, n3⟩ := x
    obtain ⟨xs, y, hq, hy⟩ := g
    obtain ⟨its, rv, tp1, _⟩ := I.tuple hq
    obtain ⟨u, hu, ru⟩ := rv.get hy
    have hd : X.A.in1.handled = none := I.ok.hd calm
    have lt : i < its.toArray.size := by
      have := (List.getElem?_eq_some_iff.mp hu).1
      simpa using this
    refine wpAny_pyNext_enum_itemD (Draws.tuple hd it a n3 its.toArray) en ⟨ti, tp1⟩ lt n1 (by simp [n1, n2]) fun u2 h2 tk pu out st2 newT _ keep2 => ?_
    have eu : u2 = u := by
      have pu : its.toArray[i]? = some u2 := pu
      rw [List.getElem?_toArray, hu] at pu
      exact (Option.some.inj pu).symm
    subst eu
    refine ⟨_, rfl, wpAny_letOwnedTupleGo_enum (s := { s with heap := h2, toks := tk + 1 }) out fun h3 en3 same3 => ?_⟩
    have le : e < s.heap.objs.size := low e (by simp)
    have at3 : h3.get? s.heap.objs.size = some { cls := .type "tuple", data := .seq #[.int i tk, u2] } := (same3.2 _ (Nat.ne_of_gt le)).trans newT
    have ok3 : ObjOk X.prog X.w (upd H s.heap.objs.size (.tup [.int (i : Nat), y])) h3 s.heap.objs.size (.tup [.int (i : Nat), y]) :=
      ⟨by show 2 ≤ sizeLine; decide, [.int i tk, u2], .cons ⟨_, rfl⟩ (.cons ru .nil), ⟨_, at3, rfl, _, rfl⟩⟩
    have J : Inv X pins σ (upd H s.heap.objs.size (.tup [.int (i : Nat), y])) { s with heap := h3, toks := tk + 1 } := by
      refine I.turnedNew (t' := tk + 1) (ch := [e, it]) (fun b ob hb q => ?_) fp (Nat.le_refl _) ok3
      simp only [List.mem_cons, List.not_mem_nil, or_false, not_or] at hb
      exact (same3.2 b hb.1).trans (keep2 b ob hb.1 hb.2 q)
    refine ⟨.ref s.heap.objs.size, _, J, rfl, ⟨_, y, rfl, I.hok.fresh (Nat.le_refl _), rfl, fun ys hys => by rw [I.tuple_inj hys hq]; exact hy⟩, ⟨⟨u2, ?_⟩, st2.1.at fun o q => (same3.2 it (Ne.symm n1)).trans q, n1, n2, n3⟩, fun b hb => ?_⟩
    · rw [show ((i + 1 : Nat) : Int) = (i : Int) + 1 by omega]
      exact en3
    · rw [upd_ne (Nat.ne_of_lt (low b hb))]
      exact (fp b hb).1
  · intro X rP rw' rK calm i pins s σ H E I fp x g
    subst rP rw' rK
    obtain ⟨⟨old, en⟩, ti, n1, n2, n3⟩ := x
    obtain ⟨xs, hq, hl⟩ := g
    obtain ⟨its, rv, tp1, _⟩ := I.tuple hq
    have hd : X.A.in1.handled = none := I.ok.hd calm
    have ll := rv.length
    unfold pyNext
    refine wpAny_bind (wpAny_attempt (wpAny_callSpecial?_slot (name := Str.ofString "__next__") ⟨_, en, rfl⟩ F.slot_enumerate_next (wpAny_call_entry F.slot_enumerate_next ⟨_, en, rfl⟩ F.entry_enumerate_next ?_ (F.args_enumerate_next_1 _))))
    show wpAny _ _ (field (.ref e) 2 >>= _) _ _ _
    refine wpAny_bind (wpAny_field en rfl (x := .ref it) rfl ?_)
    refine wpAny_bind (wpAny_nextOf_tuple_end hd ti tp1 (by simp; omega) fun h2 z ext is => ?_)
    obtain ⟨o2, ho2, hc2⟩ := is
    refine wpAny_bind (wpAny_isInstance (T := "StopIteration") (b := true) ⟨o2, ho2, hc2⟩ isSubtype_stop (wpAny_pure ⟨rfl, ?_⟩))
    refine I.turnedL (t' := s.toks) (ch := [e, it]) (fun b ob hb q => ext b ob (fun z => hb (by simp [z])) q) fp
  · obtain ⟨⟨_, en⟩, _⟩ := x
    exact wpAny_pyIter_enum en q
/-- a list's or a tuple's -/
def iEnA (K : PySem.W.Frag) (ta : TA) : TI := fun σ H R => ta σ H fun vs H1 => ∃ a xs, vs = [.ref a] ∧ ((SqL K H1 a xs ∧ R (Ite K a) H1) ∨ (SqT K H1 a xs ∧ R (ItnT K a) H1))
theorem pi_enA {X : Cx} {e : Expr} {ta : TA} {p pos tp : Pos} {elts : List Expr} {kk : Nat} (hg : Gl X "enumerate") (hm : X.mg "enumerate" = none) (ha : PA X [e] ta) (hs : starEach [e] X.env = [(false, eval e X.env)]) : PI X (.Tuple elts kk tp) (.Call (.Name "enumerate" p) [e] [] pos) (iEnA X.K ta) := by
  refine ⟨fun pins s σ H R I h => Call_ (ld_blt I hg hm boot_enumerate (PyProof.Rows.callWith_type1 (thn (ha.run pos pins s σ H _ I h) fun us s1 hq => ?_) hs rfl))⟩
  obtain ⟨vs, H1, I1, r1, a, xs, rfl, q⟩ := hq
  obtain ⟨u, rfl, ru⟩ := Vals.one r1
  cases ru
  have fresh : ∀ b ∈ [s1.heap.objs.size + 1, s1.heap.objs.size], FpOk X pins H1 b := fun b hb => by
    have : s1.heap.objs.size ≤ b := by
      simp only [List.mem_cons, List.not_mem_nil, or_false] at hb
      rcases hb with rfl | rfl
      · exact Nat.le_add_right _ _
      · exact Nat.le_refl _
    exact I1.fpOk this (I1.hok.fresh this)
  rcases q with ⟨hq, q⟩ | ⟨hq, q⟩
  · obtain ⟨its, rv, pl, _⟩ := I1.list hq
    refine call_enumerate_list pl.isList fun h2 en li _ keep => wpAny_pyIter_enum en ?_
    exact ⟨_, _, _, _, H1, rfl, I1.kept (t' := s1.toks) keep, turn_enum a (s1.heap.objs.size + 1) s1.heap.objs.size, ⟨⟨.none, en⟩, li, Nat.succ_ne_self _⟩, fresh, q⟩
  · obtain ⟨its, rv, pt, _⟩ := I1.tuple hq
    obtain ⟨oa, ha1, _⟩ := id pt
    have la : a < s1.heap.objs.size := Heap.lt_size ha1
    refine enumCall1 (begins_tuple a its.toArray) pt fun h2 en li keep => wpAny_pyIter_enum en ?_
    exact ⟨_, _, _, _, H1, rfl, I1.kept (t' := s1.toks) keep, turnEnT a (s1.heap.objs.size + 1) s1.heap.objs.size, ⟨⟨.none, en⟩, ⟨_, li, rfl, rfl⟩, Nat.succ_ne_self _, Nat.ne_of_gt (Nat.lt_succ_of_lt la), Nat.ne_of_lt la⟩, fresh, q⟩
theorem enum_get {xs : List D} {i : Nat} {d : D} (h : (xs.zipIdx.map fun p => D.pr [.int p.2, p.1])[i]? = some d) : ∃ y, xs[i]? = some y ∧ d = .pr [.int (i : Nat), y] := by
  rw [List.getElem?_map, List.getElem?_zipIdx] at h
  cases hx : xs[i]? with
  | none => rw [hx] at h; cases h
  | some y =>
    rw [hx] at h
    cases h
    exact ⟨y, rfl, by simp⟩
theorem jok_enT {k : Kx} {Z : Addr → Prop} {H : Hp} {xs : List D} {p : Addr} {us : List V} (h1 : TupX H p us) (r1 : RepAll k Z H xs us) : JOk k Z H (ItnT k.K p) (xs.zipIdx.map fun q => D.pr [.int q.2, q.1]) := by
  intro Z2 H2 hz kp i
  obtain ⟨o1, h1, _⟩ := h1
  have s1 : SqT k.K H2 p us := .inl (.inr ⟨o1, kp.frz _ _ _ h1⟩)
  have q1 := RepAll.keep kp hz _ r1
  refine ⟨fun d hd => ?_, fun hi => ⟨us, s1, by rw [← RepAll.len _ r1]; simpa using hi⟩⟩
  obtain ⟨d1, e1, rfl⟩ := enum_get hd
  obtain ⟨x, x1, x2⟩ := RepAll.get _ q1 e1
  refine ⟨⟨us, x, s1, x1⟩, fun v H3 hy => ?_⟩
  obtain ⟨T, x3, rfl, hT, rfl, g1⟩ := hy
  have := g1 us s1
  rw [x1] at this
  cases this
  refine ⟨.inr ⟨T, _, hT, rfl⟩, ?_⟩
  simp only [Rep]
  exact ⟨T, _, rfl, upd_same, RepAll.pair (by simp only [Rep]) (x2.keep (Keep.new hT) fun _ z => z)⟩
theorem jok_enL {k : Kx} {Z : Addr → Prop} {H : Hp} {xs : List D} {p : Addr} {us : List V} (h1 : (Z p ∧ Rd H p (.lst us)) ∨ KL k.K p us) (r1 : RepAll k Z H xs us) : JOk k Z H (Ite k.K p) (xs.zipIdx.map fun q => D.pr [.int q.2, q.1]) := by
  intro Z2 H2 hz kp i
  have s1 := zl_sq (zl_keep kp hz h1)
  have q1 := RepAll.keep kp hz _ r1
  refine ⟨fun d hd => ?_, fun hi => ⟨us, s1, by rw [← RepAll.len _ r1]; simpa using hi⟩⟩
  obtain ⟨d1, e1, rfl⟩ := enum_get hd
  obtain ⟨x, x1, x2⟩ := RepAll.get _ q1 e1
  refine ⟨⟨us, x, s1, x1⟩, fun v H3 hy => ?_⟩
  obtain ⟨T, x3, rfl, hT, rfl, g1⟩ := hy
  have := g1 us s1
  rw [x1] at this
  cases this
  refine ⟨.inr ⟨T, _, hT, rfl⟩, ?_⟩
  simp only [Rep]
  exact ⟨T, _, rfl, upd_same, RepAll.pair (by simp only [Rep]) (x2.keep (Keep.new hT) fun _ z => z)⟩
section
variable {X : Cx} {tabs : List Addr} {cf : CF} {a : Expr} {a' : E} {pos p : Pos}
theorem i_enum {elts : List Expr} {kk : Nat} {tp : Pos} (hm : X.mg "enumerate" = none) (h : SM X tabs cf [a] (.cons a' .nil)) (hg : Gl X "enumerate" := by rfl) (hs : starEach [a] X.env = [(false, eval a X.env)] := by rfl) : IM X tabs cf (.Tuple elts kk tp) (.Call (.Name "enumerate" p) [a] [] pos) (.bi .enum (.cons a' .nil)) := by
  refine ⟨fun ok => Sw.PI.weak (pi_enA hg hm (h.run ok) hs) fun σ H R h => ?_⟩
  obtain ⟨Z, env, xs, env', st, he, q⟩ := h
  rw [evi_walk rfl] at he
  obtain ⟨ds, env1, h1, he⟩ := Res.bind_ok he
  obtain ⟨hf, rfl⟩ := Res.of_ok he
  refine ⟨Z, env, ds, _, st, h1, fun vs Z1 H1 g1 r1 => ?_⟩
  have hf : enumOf ds = some xs := hf
  unfold enumOf at hf
  split at hf
  · rename_i d _
    simp only [RepAll] at r1
    obtain ⟨v, _, rfl, r1, rfl⟩ := r1
    cases d with
    | tup ys =>
      cases hf
      simp only [Rep] at r1
      obtain ⟨p1, us, rfl, e1, r1⟩ := r1
      exact ⟨p1, us, rfl, .inr ⟨e1.sq, q _ Z1 H1 g1 (jok_enT e1 r1)⟩⟩
    | lst ys =>
      cases hf
      simp only [Rep] at r1
      obtain ⟨p1, us, rfl, e1, r1⟩ := r1
      exact ⟨p1, us, rfl, .inl ⟨zl_sq e1, q _ Z1 H1 g1 (jok_enL e1 r1)⟩⟩
    | _ => cases hf
  · cases hf
end
end Sw

set_option Elab.async false
set_option linter.all false
set_option maxRecDepth 100000
set_option maxHeartbeats 1000000
/-! Chains of comparisons, in and not in, index of a tuple, int of a truth. -/
namespace Sw
open PySem PySem.Spec PyProof.Rows L2 GenW RZ
section
variable {X : Cx} {tabs : List Addr} {cf : CF} {a b c e : Expr} {es : List Expr} {a' b' c' e' : E} {pos p : Pos}
/-! ### chains -/
theorem chain_rd {op op2 : CmpOp} {o o2 : COp} {r r2 : R2} (hs : ServesC (kx X tabs) r o) (hs2 : ServesC (kx X tabs) r2 o2) (ha : EM X tabs cf a a') (hb : EM X tabs cf b b') (hc : EM X tabs cf c c')
    (ok3 : disj (vws a') (tou b' (.val true)) = true) (ok4 : disj (vws b') (tou c' (.val true)) = true) {σ : L2.St} {H : Hp} {Q : VK} {vw : Bool} (h : RdE (kx X tabs) cf (.chain o o2 a' b' c') vw σ H Q) :
    tChain r r2 (RdE (kx X tabs) cf a' true) (RdE (kx X tabs) cf b' true) (RdE (kx X tabs) cf c' true) σ H Q := by
  obtain ⟨Z, env, t, env', st, he, q⟩ := h
  rw [ev_chain] at he
  obtain ⟨x, env1, h1, he⟩ := Res.bind_ok he
  obtain ⟨y, env2, h2, he⟩ := Res.bind_ok he
  obtain ⟨k, env3, h3, he⟩ := Res.bind_ok he
  obtain ⟨hk, rfl⟩ := Res.of_ok h3
  refine ⟨Z, env, x, env1, st, h1, fun v Z1 H1 g1 r1 => ⟨Z1, env1, y, _, g1.st, h2, fun w Z2 H2 g2 rr2 => ?_⟩⟩
  have r1' := VRep.go g1.st g2 (disj_mem ok3) r1.v
  refine hs σ Z2 H2 _ _ _ x y k v w _ g2.st r1' rr2.v hk ⟨k, rfl, ?_⟩
  cases k with
  | false =>
    rw [if_neg Bool.false_ne_true]
    have he : Res.ok (T.im (D.bl false)) env3 = Res.ok t env' := he
    cases he
    exact q _ Z2 H2 ((g1.trans g2).mono fun i hi => by
      simp only [tou, List.mem_append] at hi ⊢
      rcases hi with hi | hi
      · exact .inl hi
      · exact .inr (.inl hi)) (.im Rep.bl)
  | true =>
    rw [if_pos rfl]
    obtain ⟨z, env4, h4, he⟩ := Res.bind_ok (show (ev cf c' true env3).bind _ = _ from he)
    obtain ⟨hf, rfl⟩ := Res.of_ok he
    refine ⟨Z2, _, z, _, g2.st, h4, fun w3 Z3 H3 g3 rr3 => ?_⟩
    have r2' := VRep.go g2.st g3 (disj_mem ok4) rr2.v
    cases hc : cmpop o2 y z with
    | none => rw [hc] at hf; cases hf
    | some kk =>
      rw [hc] at hf
      cases hf
      refine hs2 σ Z3 H3 _ _ _ y z kk w w3 Q g3.st r2' rr3.v hc (q _ Z3 H3 (((g1.trans g2).trans g3).mono fun i hi => ?_) (.im Rep.bl))
      simp only [tou, List.mem_append] at hi ⊢
      rcases hi with (hi | hi) | hi
      · exact .inl hi
      · exact .inr (.inl hi)
      · exact .inr (.inr hi)
theorem em_chain {op op2 : CmpOp} {o o2 : COp} {r r2 : R2} (ho : OpR X (compareOp op) r) (ho2 : OpR X (compareOp op2) r2) (hs : ServesC (kx X tabs) r o) (hs2 : ServesC (kx X tabs) r2 o2)
    (hp : ∀ ta tb tc, PE X a ta → PE X b tb → PE X c tc → PE X (.Compare a [op, op2] [b, c] pos) (tChain r r2 ta tb tc)) (ha : EM X tabs cf a a') (hb : EM X tabs cf b b') (hc : EM X tabs cf c c') : EM X tabs cf (.Compare a [op, op2] [b, c] pos) (.chain o o2 a' b' c') := by
  refine ⟨fun vw ok => ?_⟩
  simp only [okE, Bool.and_eq_true] at ok
  obtain ⟨ok1, ok2, ok5, ok3, ok4⟩ := ok
  exact Sw.PE.weak (hp _ _ _ (ha.run true ok1) (hb.run true ok2) (hc.run true ok5)) fun σ H Q h => chain_rd (op := op) (op2 := op2) hs hs2 ha hb hc ok3 ok4 h
theorem tm_chain {op op2 : CmpOp} {o o2 : COp} {r r2 : R2} (ho : OpR X (compareOp op) r) (ho2 : OpR X (compareOp op2) r2) (hs : ServesC (kx X tabs) r o) (hs2 : ServesC (kx X tabs) r2 o2)
    (hp : ∀ ta tb tc, PE X a ta → PE X b tb → PE X c tc → PT X (.Compare a [op, op2] [b, c] pos) (tTest (tChain r r2 ta tb tc))) (ha : EM X tabs cf a a') (hb : EM X tabs cf b b') (hc : EM X tabs cf c c') : TM X tabs cf (.Compare a [op, op2] [b, c] pos) (.chain o o2 a' b' c') := by
  refine ⟨fun ok => ?_⟩
  simp only [okE, Bool.and_eq_true] at ok
  obtain ⟨ok1, ok2, ok5, ok3, ok4⟩ := ok
  refine Sw.PT.weak (hp _ _ _ (ha.run true ok1) (hb.run true ok2) (hc.run true ok5)) fun σ H Q h => ?_
  obtain ⟨Z, env, t, env', st, he, q⟩ := h
  obtain ⟨x0, env0, h0, he⟩ := Res.bind_ok he
  obtain ⟨ht, rfl⟩ := Res.of_ok he
  refine chain_rd (op := op) (op2 := op2) (vw := true) hs hs2 ha hb hc ok3 ok4 ⟨Z, env, x0, _, st, h0, fun v Z' H' g rr => ?_⟩
  have hx : ∃ bb, x0 = .im (.bl bb) := by
    rw [ev_chain] at h0
    obtain ⟨x, env1, _, h0⟩ := Res.bind_ok h0
    obtain ⟨y, env2, _, h0⟩ := Res.bind_ok h0
    obtain ⟨k, env3, _, h0⟩ := Res.bind_ok h0
    cases k with
    | false =>
      have h0 : Res.ok (T.im (D.bl false)) env3 = Res.ok x0 env' := h0
      cases h0; exact ⟨_, rfl⟩
    | true =>
      obtain ⟨z, env4, _, h0⟩ := Res.bind_ok (show (ev cf c' true env3).bind _ = _ from h0)
      obtain ⟨h0, _⟩ := Res.of_ok h0
      cases hc : cmpop o2 y z with
      | none => rw [hc] at h0; cases h0
      | some bb => rw [hc] at h0; cases h0; exact ⟨_, rfl⟩
  obtain ⟨bb, rfl⟩ := hx
  cases ht
  exact ⟨_, rr.v.bl rfl, q Z' H' g⟩
theorem sv_lt {k : Kx} : ServesC k (rI0 fun i j => .bl (decide (i < j))) .lt := by
  refine servesI (fun c d r e => ?_) ⟨(nomatch ·), (nomatch ·)⟩
  cases c <;> cases d <;> first | (cases e; done) | exact ⟨_, _, rfl, rfl, (Option.some.inj e).symm⟩
theorem sv_le {k : Kx} : ServesC k (rI0 fun i j => .bl (decide (i ≤ j))) .le := by
  refine servesI (fun c d r e => ?_) ⟨(nomatch ·), (nomatch ·)⟩
  cases c <;> cases d <;> first | (cases e; done) | exact ⟨_, _, rfl, rfl, (Option.some.inj e).symm⟩
theorem e_lele (ha : EM X tabs cf a a') (hb : EM X tabs cf b b') (hc : EM X tabs cf c c') (hm : lastMarks [.LtE, .LtE] [b, c] = false := by first | rfl | with_unfolding_all rfl) : EM X tabs cf (.Compare a [.LtE, .LtE] [b, c] pos) (.chain .le .le a' b' c') := em_chain op_le op_le sv_le sv_le (fun ta tb tc h1 h2 h3 => pe_chain op_le op_le h1 h2 h3 hm) ha hb hc
theorem e_lelt (ha : EM X tabs cf a a') (hb : EM X tabs cf b b') (hc : EM X tabs cf c c') (hm : lastMarks [.LtE, .Lt] [b, c] = false := by first | rfl | with_unfolding_all rfl) : EM X tabs cf (.Compare a [.LtE, .Lt] [b, c] pos) (.chain .le .lt a' b' c') := em_chain op_le op_lt sv_le sv_lt (fun ta tb tc h1 h2 h3 => pe_chain op_le op_lt h1 h2 h3 hm) ha hb hc
theorem e_ltlt (ha : EM X tabs cf a a') (hb : EM X tabs cf b b') (hc : EM X tabs cf c c') (hm : lastMarks [.Lt, .Lt] [b, c] = false := by first | rfl | with_unfolding_all rfl) : EM X tabs cf (.Compare a [.Lt, .Lt] [b, c] pos) (.chain .lt .lt a' b' c') := em_chain op_lt op_lt sv_lt sv_lt (fun ta tb tc h1 h2 h3 => pe_chain op_lt op_lt h1 h2 h3 hm) ha hb hc
theorem e_ltle (ha : EM X tabs cf a a') (hb : EM X tabs cf b b') (hc : EM X tabs cf c c') (hm : lastMarks [.Lt, .LtE] [b, c] = false := by first | rfl | with_unfolding_all rfl) : EM X tabs cf (.Compare a [.Lt, .LtE] [b, c] pos) (.chain .lt .le a' b' c') := em_chain op_lt op_le sv_lt sv_le (fun ta tb tc h1 h2 h3 => pe_chain op_lt op_le h1 h2 h3 hm) ha hb hc
theorem t_lele (ha : EM X tabs cf a a') (hb : EM X tabs cf b b') (hc : EM X tabs cf c c') (hm : lastMarks [.LtE, .LtE] [b, c] = false := by first | rfl | with_unfolding_all rfl) : TM X tabs cf (.Compare a [.LtE, .LtE] [b, c] pos) (.chain .le .le a' b' c') := tm_chain op_le op_le sv_le sv_le (fun ta tb tc h1 h2 h3 => pt_chain op_le op_le h1 h2 h3 hm) ha hb hc
theorem t_lelt (ha : EM X tabs cf a a') (hb : EM X tabs cf b b') (hc : EM X tabs cf c c') (hm : lastMarks [.LtE, .Lt] [b, c] = false := by first | rfl | with_unfolding_all rfl) : TM X tabs cf (.Compare a [.LtE, .Lt] [b, c] pos) (.chain .le .lt a' b' c') := tm_chain op_le op_lt sv_le sv_lt (fun ta tb tc h1 h2 h3 => pt_chain op_le op_lt h1 h2 h3 hm) ha hb hc
theorem t_ltlt (ha : EM X tabs cf a a') (hb : EM X tabs cf b b') (hc : EM X tabs cf c c') (hm : lastMarks [.Lt, .Lt] [b, c] = false := by first | rfl | with_unfolding_all rfl) : TM X tabs cf (.Compare a [.Lt, .Lt] [b, c] pos) (.chain .lt .lt a' b' c') := tm_chain op_lt op_lt sv_lt sv_lt (fun ta tb tc h1 h2 h3 => pt_chain op_lt op_lt h1 h2 h3 hm) ha hb hc
theorem t_ltle (ha : EM X tabs cf a a') (hb : EM X tabs cf b b') (hc : EM X tabs cf c c') (hm : lastMarks [.Lt, .LtE] [b, c] = false := by first | rfl | with_unfolding_all rfl) : TM X tabs cf (.Compare a [.Lt, .LtE] [b, c] pos) (.chain .lt .le a' b' c') := tm_chain op_lt op_le sv_lt sv_le (fun ta tb tc h1 h2 h3 => pt_chain op_lt op_le h1 h2 h3 hm) ha hb hc
end
/-! ### in -/
section
variable {k : Kx} {Z : Addr → Prop} {H : Hp}
theorem pl_rep {d : D} {v : V} (h : d.pl = true) (r : Rep k Z H d v) : flatV v = true := by
  unfold D.pl at h
  simp only [Bool.and_eq_true] at h
  cases d with
  | non => simp only [Rep] at r; subst r; rfl
  | bl b => simp only [Rep] at r; subst r; rfl
  | int i => simp only [Rep] at r; subst r; rfl
  | str s => simp only [Rep] at r; obtain ⟨x, rfl, _⟩ := r; rfl
  | ty n => cases h.1.1
  | tup xs => cases h.2
  | lst xs => cases h.2
  | pr xs => cases h.1.1
theorem str_eq_iff {x y : Str} : x = y ↔ x.cps.toList = y.cps.toList := ⟨fun h => h ▸ rfl, fun h => by
  cases x; cases y
  simp only [Str.mk.injEq]
  exact Array.toList_inj.mp h⟩
theorem pl_eq {d e : D} {v u : V} (h : d.pl = true) (h2 : e.pl = true) (r : Rep k Z H d v) (r2 : Rep k Z H e u) : eqV v u = D.eq d e := by
  unfold D.pl at h h2
  simp only [Bool.and_eq_true] at h h2
  cases d with
  | tup xs => cases h.2
  | lst xs => cases h.2
  | ty n => cases h.1.1
  | pr n => cases h.1.1
  | non =>
    simp only [Rep] at r; subst r
    cases e with
    | tup xs => cases h2.2
    | lst xs => cases h2.2
    | ty n => cases h2.1.1
    | pr n => cases h2.1.1
    | str s => simp only [Rep] at r2; obtain ⟨x, rfl, _⟩ := r2; simp only [D.eq]; rfl
    | _ => simp only [Rep] at r2; subst r2; simp only [D.eq]; rfl
  | bl b =>
    simp only [Rep] at r; subst r
    cases e with
    | tup xs => cases h2.2
    | lst xs => cases h2.2
    | ty n => cases h2.1.1
    | pr n => cases h2.1.1
    | str s => simp only [Rep] at r2; obtain ⟨x, rfl, _⟩ := r2; simp only [D.eq]; rfl
    | _ => simp only [Rep] at r2; subst r2; simp only [D.eq]; rfl
  | int i =>
    simp only [Rep] at r; subst r
    cases e with
    | tup xs => cases h2.2
    | lst xs => cases h2.2
    | ty n => cases h2.1.1
    | pr n => cases h2.1.1
    | str s => simp only [Rep] at r2; obtain ⟨x, rfl, _⟩ := r2; simp only [D.eq]; rfl
    | _ => simp only [Rep] at r2; subst r2; simp only [D.eq]; rfl
  | str s =>
    simp only [Rep] at r; obtain ⟨x, rfl, hx⟩ := r
    cases e with
    | tup xs => cases h2.2
    | lst xs => cases h2.2
    | ty n => cases h2.1.1
    | pr n => cases h2.1.1
    | str t =>
      simp only [Rep] at r2; obtain ⟨y, rfl, hy⟩ := r2
      simp only [D.eq]
      show (x == y) = (s == t)
      rw [Bool.eq_iff_iff, beq_iff_eq, beq_iff_eq, str_eq_iff, hx, hy]
    | _ => simp only [Rep] at r2; subst r2; simp only [D.eq]; rfl
theorem pl_all : ∀ (ds : List D) {vs : List V}, ds.all D.pl = true → RepAll k Z H ds vs → vs.all flatV = true
  | [], vs, _, r => by simp only [RepAll] at r; subst r; rfl
  | d :: ds, vs, h, r => by
    simp only [RepAll] at r
    obtain ⟨v, r', rfl, h1, h2⟩ := r
    simp only [List.all_cons, Bool.and_eq_true] at h ⊢
    exact ⟨pl_rep h.1 h1, pl_all ds h.2 h2⟩
theorem pl_any {d : D} {v : V} (hd : d.pl = true) (rd : Rep k Z H d v) : ∀ (ds : List D) {vs : List V}, ds.all D.pl = true → RepAll k Z H ds vs → inV v vs = ds.any fun y => D.eq y d
  | [], vs, _, r => by simp only [RepAll] at r; subst r; rfl
  | e :: ds, vs, h, r => by
    simp only [RepAll] at r
    obtain ⟨u, r', rfl, h1, h2⟩ := r
    simp only [List.all_cons, Bool.and_eq_true] at h
    show (eqV u v || inV v r') = (D.eq e d || ds.any fun y => D.eq y d)
    rw [pl_eq h.1 hd h1 rd, pl_any hd rd ds h.2 h2]
end
/-- in a tuple of plain things, a list of any, a set of whole numbers -/
def rInA (k : Kx) (neg : Bool) : R2 := fun x y H Q => rIn k.K neg x y H Q ∨ (if neg then rNotInD k.K x y H Q else rInD k.K x y H Q) ∨ (if neg then rSNotIn k.w x y H Q else rSIn k.w x y H Q)
theorem or_inA {X : Cx} {tabs : List Addr} (hu : X.A.units + 65 < cLine) : OpR X (compareOp .In) (rInA (kx X tabs) false) := by
  intro pins s σ H x y v u Q I rx ry h
  rcases h with h | h | h
  · exact op_in_seq pins s σ H x y v u Q I rx ry h
  · exact op_inD hu pins s σ H x y v u Q I rx ry h
  · exact or_sin pins s σ H x y v u Q I rx ry h
theorem or_ninA {X : Cx} {tabs : List Addr} (hu : X.A.units + 65 < cLine) : OpR X (compareOp .NotIn) (rInA (kx X tabs) true) := by
  intro pins s σ H x y v u Q I rx ry h
  rcases h with h | h | h
  · exact op_notIn_seq pins s σ H x y v u Q I rx ry h
  · exact op_notInD hu pins s σ H x y v u Q I rx ry h
  · exact or_snotin pins s σ H x y v u Q I rx ry h
theorem pds_any {d : D} (hd : d.noTy = true) : ∀ (ds : List D), D.noTys ds = true → ((ds.map pd).any fun z => PyData.eqv z (pd d)) = ds.any fun y => D.eq y d
  | [], _ => rfl
  | e :: ds, h => by
    simp only [D.noTys, Bool.and_eq_true] at h
    simp only [List.map_cons, List.any_cons]
    rw [pd_eqv _ _ h.1 hd, pds_any hd ds h.2]
theorem serves_in {k : Kx} : ServesC k (rInA k false) .inn := by
  intro σ Z H env xs ys x y b v w Q st rx ry e q
  rcases cmpop_inv e with ⟨c, d, ex, ey, e⟩ | ⟨i, zs, ex, rfl, ⟨_, rfl⟩ | ⟨e, _⟩⟩
  · cases d with
    | tup ds =>
      have e' : (if c.pl && ds.all D.pl then some (ds.any fun y => D.eq y c) else none) = some b := e
      split at e'
      · rename_i hf
        simp only [Bool.and_eq_true] at hf
        cases e'
        obtain ⟨ad, vs, rfl, ha, ra⟩ := ry.tup ey
        have rc : Rep k Z H c v := rx.rep ex fun ds z => by subst z; simp [D.pl, D.isSeq] at hf
        refine .inl ⟨ad, vs, rfl, .inr ha.sq, pl_rep hf.1 rc, pl_all ds hf.2 ra, ?_⟩
        rw [if_neg Bool.false_ne_true, pl_any hf.1 rc ds hf.2 ra]
        exact q
      · cases e'
    | lst ds =>
      have e' : (if c.flat && (D.lst ds).flat then some (ds.any fun y => D.eq y c) else none) = some b := e
      split at e'
      · rename_i hf
        simp only [Bool.and_eq_true] at hf
        cases e'
        have hn := flat_noTy hf.2
        have hd := ry.dp ey hn
        have hp : pd (.lst ds) = .list (ds.map pd) := by simp only [pd]; exact congrArg _ (pds_map ds)
        refine .inr (.inl ?_)
        rw [if_neg Bool.false_ne_true]
        rw [hp] at hd
        refine ⟨pd c, ds.map pd, rx.dp ex (flat_noTy hf.1), hd, pd_shaped hf.1, by rw [← hp]; exact pd_shaped hf.2, ?_⟩
        rw [pds_any (flat_noTy hf.1) ds (by simpa only [D.noTy] using hn)]
        exact q
      · cases e'
    | _ => cases e
  · obtain ⟨ad, rfl, ro, _⟩ := (show ∃ a, w = .ref a ∧ ORep k Z H a (.s zs) ∧ _ from ry)
    obtain ⟨_, ro⟩ := ro
    refine .inr (.inr ?_)
    rw [if_neg Bool.false_ne_true]
    exact ⟨i, ad, _, _, rx.int ex, rfl, ro, q⟩
  · cases e
theorem serves_nin {k : Kx} : ServesC k (rInA k true) .nin := by
  intro σ Z H env xs ys x y b v w Q st rx ry e q
  rcases cmpop_inv e with ⟨c, d, ex, ey, e⟩ | ⟨i, zs, ex, rfl, ⟨e, _⟩ | ⟨_, rfl⟩⟩
  · cases d with
    | tup ds =>
      have e' : (if c.pl && ds.all D.pl then some (!ds.any fun y => D.eq y c) else none) = some b := e
      split at e'
      · rename_i hf
        simp only [Bool.and_eq_true] at hf
        cases e'
        obtain ⟨ad, vs, rfl, ha, ra⟩ := ry.tup ey
        have rc : Rep k Z H c v := rx.rep ex fun ds z => by subst z; simp [D.pl, D.isSeq] at hf
        refine .inl ⟨ad, vs, rfl, .inr ha.sq, pl_rep hf.1 rc, pl_all ds hf.2 ra, ?_⟩
        rw [if_pos rfl, pl_any hf.1 rc ds hf.2 ra]
        exact q
      · cases e'
    | lst ds =>
      have e' : (if c.flat && (D.lst ds).flat then some (!ds.any fun y => D.eq y c) else none) = some b := e
      split at e'
      · rename_i hf
        simp only [Bool.and_eq_true] at hf
        cases e'
        have hn := flat_noTy hf.2
        have hd := ry.dp ey hn
        have hp : pd (.lst ds) = .list (ds.map pd) := by simp only [pd]; exact congrArg _ (pds_map ds)
        refine .inr (.inl ?_)
        rw [if_pos rfl]
        rw [hp] at hd
        refine ⟨pd c, ds.map pd, rx.dp ex (flat_noTy hf.1), hd, pd_shaped hf.1, by rw [← hp]; exact pd_shaped hf.2, ?_⟩
        rw [pds_any (flat_noTy hf.1) ds (by simpa only [D.noTy] using hn)]
        exact q
      · cases e'
    | _ => cases e
  · cases e
  · obtain ⟨ad, rfl, ro, _⟩ := (show ∃ a, w = .ref a ∧ ORep k Z H a (.s zs) ∧ _ from ry)
    obtain ⟨_, ro⟩ := ro
    refine .inr (.inr ?_)
    rw [if_pos rfl]
    exact ⟨i, ad, _, _, rx.int ex, rfl, ro, q⟩
section
variable {X : Cx} {tabs : List Addr} {cf : CF} {a b c e : Expr} {es : List Expr} {a' b' c' e' : E} {pos p : Pos}
theorem room_in {l : Nat} (hr : Room l X.A) : X.A.units + 65 < cLine := by have := hr.un; omega
theorem e_inn {l : Nat} (hr : Room l X.A) (ha : EM X tabs cf a a') (hb : EM X tabs cf b b') (hm : behindInMarks .In b = false := by rfl) : EM X tabs cf (.Compare a [.In] [b] pos) (.cmp .inn a' b') := em_cmp (or_inA (tabs := tabs) (room_in hr)) serves_in hm ha hb
theorem e_nin {l : Nat} (hr : Room l X.A) (ha : EM X tabs cf a a') (hb : EM X tabs cf b b') (hm : behindInMarks .NotIn b = false := by rfl) : EM X tabs cf (.Compare a [.NotIn] [b] pos) (.cmp .nin a' b') := em_cmp (or_ninA (tabs := tabs) (room_in hr)) serves_nin hm ha hb
theorem t_inn {l : Nat} (hr : Room l X.A) (ha : EM X tabs cf a a') (hb : EM X tabs cf b b') (hm : behindInMarks .In b = false := by rfl) : TM X tabs cf (.Compare a [.In] [b] pos) (.cmp .inn a' b') := tm_cmp (or_inA (tabs := tabs) (room_in hr)) serves_in hm ha hb
theorem t_nin {l : Nat} (hr : Room l X.A) (ha : EM X tabs cf a a') (hb : EM X tabs cf b b') (hm : behindInMarks .NotIn b = false := by rfl) : TM X tabs cf (.Compare a [.NotIn] [b] pos) (.cmp .nin a' b') := tm_cmp (or_ninA (tabs := tabs) (room_in hr)) serves_nin hm ha hb
theorem serves_int1 {k : Kx} : ServesB k (fun xs H Q => (∃ i, xs = [.int i] ∧ Q (.int i) H) ∨ ∃ k, xs = [.bl k] ∧ Q (.int (if k then 1 else 0)) H) .int := by
  intro σ Z Z2 H H2 env env2 tt ts t vs Q st g va e q
  obtain ⟨x, rfl, hx⟩ := oneT_some (show oneT intT ts = some t from e)
  obtain ⟨v, xs, rfl, rv⟩ := va.one
  cases x with
  | nu o => cases hx
  | im d =>
    cases d with
    | bl b =>
      cases hx
      have := rv.bl rfl
      subst this
      exact .inr ⟨b, rfl, q _ H2 g (by cases b <;> simp only [TRep, Rep] <;> rfl)⟩
    | int i =>
      cases hx
      have := rv.int rfl
      subst this
      exact .inl ⟨i, rfl, q _ H2 g (by simp only [TRep, Rep])⟩
    | _ => cases hx
theorem e_int (hm : X.mg "int" = none) (h : LM X tabs cf (e :: es) e') (hg : Gl X "int" := by rfl) (he : starEach (e :: es) X.env = (false, eval e X.env) :: starEach es X.env := by rfl) (hpl : (backTo pos (starEach es X.env)).any (·.1) = false := by rfl) : EM X tabs cf (.Call (.Name "int" p) (e :: es) [] pos) (.bi .int e') :=
  em_bi (fun _ ha => pe_callTy call_int1 hg hm PyProof.Rows.boot_int ha (by decide) (by decide) he hpl) rfl serves_int1 h
end
end Sw

set_option Elab.async false
set_option linter.all false
set_option maxRecDepth 100000
set_option maxHeartbeats 1000000
/-! index of a tuple. -/
namespace Sw
open PySem PySem.Spec PyProof.Rows L2 GenW RZ
section
variable {X : Cx} {tabs : List Addr} {cf : CF} {e o : Expr} {es : List Expr} {e' o' : E} {apos cpos : Pos}
/-- the first place of a plain thing among plain things -/
def rTix (K : PySem.W.Frag) : V → List V → Hp → VK → Prop := fun x xs H Q => ∃ (p : Addr) (ys : List V) (y z : V) (j : Nat), x = .ref p ∧ xs = [y] ∧ SqT K H p ys ∧ flatV y = true ∧ ys.all flatV = true ∧
  ys[j]? = some z ∧ eqV z y = true ∧ (∀ (m : Nat) (u : V), m < j → ys[m]? = some u → eqV u y = false) ∧ Q (.int (j : Nat)) H
theorem mt_tix : MtR X "tuple.index" (rTix X.K) := by
  intro pins s σ H x xs v us Q I rx rs h
  obtain ⟨p, ys, y, z, j, rfl, rfl, hq, fy, fys, hz, hj, hno, q⟩ := h
  cases rx
  obtain ⟨uy, rfl, ry⟩ := Vals.one rs
  obtain ⟨its, rv, pl, hsz⟩ := I.tuple hq
  obtain ⟨⟨cls, dd, dt, sl⟩, ho, hc, n, hd⟩ := pl
  simp only at hc hd
  subst hc hd
  have at1 : ∀ (m : Nat) (w : V), ys[m]? = some w → ∀ (hm : m < its.toArray.size), eqU y its.toArray[m] = eqV w y := fun m w hw hm => by
    obtain ⟨u, hu, ru⟩ := rv.get hw
    have e1 : its.toArray[m] = u := by simpa using (List.getElem?_eq_some_iff.mp hu).2
    rw [e1]
    exact eqU_of ru (flat_at fys hw)
  have ll := rv.length
  have lj : j < its.toArray.size := by
    have := (List.getElem?_eq_some_iff.mp hz).1
    simp only [List.size_toArray]
    omega
  refine call_meets PySem.F.slot_tuple_index ⟨_, ho, rfl⟩ PySem.F.entry_tuple_index (PySem.F.args_tuple_index_2 _ _) (TI.tuple_indexAt p its.toArray n dd sl uy (eqU y) j lj ?_ fun m hm hmj => ?_) ⟨ho, fun w hw => mem_eqAt ry fy rv fys w (by simpa using hw), ⟨.int (j : Nat), H, I.tok _, ⟨_, rfl⟩, q⟩⟩
  · rw [at1 j z hz lj]
    exact hj
  · have hm2 : m < ys.length := by simp only [List.size_toArray] at hm; omega
    rw [at1 m _ (List.getElem?_eq_getElem hm2) hm]
    exact hno m _ hmj (List.getElem?_eq_getElem hm2)
/-- t.index(y), t known to have no dict -/
def tTix (K : PySem.W.Frag) (to : TE) (ta : TA) : TE := fun σ H Q => to σ H fun x H1 => (∃ p ys, x = .ref p ∧ TupX H1 p ys) ∧ ta σ H1 fun xs H2 => rTix K x xs H2 Q
theorem pe_tix {to : TE} {ta : TA} (ho : PE X o to) (ha : PA X (e :: es) ta) (hbase : attributeBase o "index" X.env (eval o X.env) = eval o X.env)
    (hfew : ((backTo cpos (starEach (e :: es) X.env)).all (fun x => !x.1) && (backToKw cpos (keywordEach [] X.env)).all (fun x => x.1.isSome)
      && decide ((e :: es).length + ([] : List Keyword).length + (if ([] : List Keyword).isEmpty then 0 else 1) < 30)) = true)
    (hline : (apos.endLine == cpos.line) = true) (hs : starEach (e :: es) X.env = (false, eval e X.env) :: starEach es X.env) (hpl : (backTo cpos (starEach es X.env)).any (·.1) = false) : PE X (.Call (.Attribute o "index" apos) (e :: es) [] cpos) (tTix X.K to ta) := by
  refine ⟨fun pins s σ H Q I h => wpAny_Call_method_late hbase hfew hline rfl (thn (ho.run pins s σ H _ I h) fun v s1 hh => ?_)⟩
  obtain ⟨x, H1, I1, r1, ⟨p, ys, rfl, ob, hp, hd⟩, q1⟩ := hh
  cases r1
  obtain ⟨g1, _, its, _, o2, g2, hc, _⟩ := I1.hok p _ hp
  rw [g1] at g2
  cases g2
  refine ⟨"tuple", "tuple.index", PySem.F.plainAttrs_tuple, PySem.F.slot_tuple_index, PySem.F.type_tuple_index, ⟨_, g1, hc⟩, fun b eb => by cases eb; exact ⟨_, g1, hd⟩, ?_⟩
  have hA := ha.run cpos pins s1 σ H1 _ I1 q1
  rw [hs] at hA ⊢
  refine Calls.callWith_builtin (by show (false || (backTo cpos (starEach es X.env)).any (·.1)) = false; rw [hpl] <;> rfl) (Calls.evalArgs_plain ?_)
  refine thn hA fun us s2 hh => ?_
  obtain ⟨vs, H2, I2, r2, q2⟩ := hh
  exact mt_tix pins s2 σ H2 (.ref p) vs (.ref p) us Q I2 rfl r2 q2
theorem findIx_spec {d : D} : ∀ {xs : List D} {n : Nat}, findIx d xs = some n → (∃ y, xs[n]? = some y ∧ D.eq y d = true) ∧ ∀ m y, m < n → xs[m]? = some y → D.eq y d = false
  | [], n, h => by cases h
  | x :: xs, n, h => by
    unfold findIx at h
    split at h
    · rename_i hx
      cases h
      exact ⟨⟨x, rfl, hx⟩, fun m y hm => absurd hm (by omega)⟩
    · rename_i hx
      cases hf : findIx d xs with
      | none => rw [hf] at h; cases h
      | some k =>
        rw [hf] at h
        cases h
        obtain ⟨⟨y, h1, h2⟩, h3⟩ := findIx_spec hf
        refine ⟨⟨y, by simpa using h1, h2⟩, fun m z hm hz => ?_⟩
        cases m with
        | zero =>
          simp at hz
          subst hz
          simpa using hx
        | succ m => exact h3 m z (Nat.lt_of_succ_lt_succ hm) (by simpa using hz)
/-- what index reads: a tuple at hand, then the thing -/
theorem em_tix (hp : ∀ to ta, PE X o to → PA X (e :: es) ta → PE X (.Call (.Attribute o "index" apos) (e :: es) [] cpos) (tTix X.K to ta)) (ho : EM X tabs cf o o') (he : SM X tabs cf (e :: es) e') : EM X tabs cf (.Call (.Attribute o "index" apos) (e :: es) [] cpos) (.mt .index o' e') := by
  refine ⟨fun vw ok => ?_⟩
  simp only [okE, Bool.and_eq_true] at ok
  obtain ⟨ok1, ok2, _⟩ := ok
  refine Sw.PE.weak (hp _ _ (ho.run true ok1) (he.run ok2)) fun σ H Q h => ?_
  obtain ⟨Z, env, t, env', st, hev, q⟩ := h
  have key : ∃ x env1, ev cf o' true env = .ok x env1 ∧ ∃ ds env2, evs cf e' env1 = .ok ds env2 ∧ mtV .index x ds = some t ∧ env' = env2 := by
    cases hsl : slotOf o' with
    | none =>
      rw [ev_mtV hsl] at hev
      obtain ⟨x, env1, h1, hev⟩ := Res.bind_ok hev
      obtain ⟨ds, env2, h2, hev⟩ := Res.bind_ok hev
      obtain ⟨hf, rfl⟩ := Res.of_ok hev
      exact ⟨x, env1, h1, ds, _, h2, hf, rfl⟩
    | some k =>
      have ev1 : o' = .v k := by
        cases o' <;> first | (cases hsl; done) | (cases hsl; rfl)
      subst ev1
      rw [ev_mt] at hev
      split at hev
      · obtain ⟨ds, env2, h2, hev⟩ := Res.bind_ok hev
        exfalso
        unfold mtSlot at hev
        split at hev
        · rename_i b ob hob
          have e0 : ∀ ob : O, mtO .index ob ds = none := fun ob => by
            cases ob <;> rfl
          rw [e0] at hev
          cases ob with
          | l xs => cases hev
          | s xs => cases hev
        · cases hev
      · obtain ⟨x, env1, h1, hev⟩ := Res.bind_ok hev
        obtain ⟨ds, env2, h2, hev⟩ := Res.bind_ok hev
        obtain ⟨hf, rfl⟩ := Res.of_ok hev
        exact ⟨x, env1, by rw [ev_v]; exact h1, ds, _, h2, hf, rfl⟩
  obtain ⟨x, env1, h1, ds, env2, h2, hf, rfl⟩ := key
  unfold mtV at hf
  split at hf
  · rename_i xs d _ hx
    split at hf
    · rename_i hpl
      simp only [Bool.and_eq_true] at hpl
      cases hfi : findIx d xs with
      | none => rw [hfi] at hf; cases hf
      | some n =>
        rw [hfi] at hf
        cases hf
        refine ⟨Z, env, x, env1, st, h1, fun v Z1 H1 g1 r1 => ?_⟩
        obtain ⟨p, vs, rfl, ht, ra⟩ := r1.v.tup hx
        refine ⟨⟨p, vs, rfl, ht⟩, Z1, env1, _, _, g1.st, h2, fun us Z2 H2 g2 rd => ?_⟩
        have kp := g2.keepK g1.st
        simp only [RepAll] at rd
        obtain ⟨y, _, rfl, ry, rfl⟩ := rd
        have ra2 := RepAll.keep kp g2.zz xs ra
        obtain ⟨ob, ht2, _⟩ := ht
        obtain ⟨⟨z, z1, z2⟩, zn⟩ := findIx_spec hfi
        have pls : ∀ w ∈ xs, D.pl w = true := List.all_eq_true.mp hpl.2
        obtain ⟨vz, w1, w2⟩ := RepAll.get _ ra2 z1
        refine ⟨p, vs, y, vz, n, rfl, rfl, .inl (.inr ⟨ob, kp.frz _ _ _ ht2⟩), pl_rep hpl.1 ry, pl_all xs hpl.2 ra2, w1, ?_, fun m u hm hu => ?_, q _ Z2 H2 ((g1.trans g2).mono fun i hi => ?_) (.im (by simp only [Rep]))⟩
        · rw [pl_eq (pls z (List.mem_of_getElem? z1)) hpl.1 w2 ry]
          exact z2
        · have hm2 : m < xs.length := by
            have := (List.getElem?_eq_some_iff.mp z1).1
            omega
          obtain ⟨u2, a1, a2⟩ := RepAll.get _ ra2 (List.getElem?_eq_getElem hm2)
          rw [hu] at a1
          cases a1
          rw [pl_eq (pls _ (List.getElem_mem hm2)) hpl.1 a2 ry]
          exact zn m _ hm (List.getElem?_eq_getElem hm2)
        · simp only [tou, List.mem_append] at hi ⊢
          rcases hi with hi | hi
          · left
            cases hsl : slotOf o' with
            | none => exact hi
            | some k =>
              have ev1 : o' = .v k := by
                cases o' <;> first | (cases hsl; done) | (cases hsl; rfl)
              subst ev1
              simp [tou, Md.vw] at hi
          · exact .inr hi
    · cases hf
  · contradiction
  · cases hf
theorem e_index (ho : EM X tabs cf o o') (he : SM X tabs cf (e :: es) e') (hbase : attributeBase o "index" X.env (eval o X.env) = eval o X.env := by rfl)
    (hfew : ((backTo cpos (starEach (e :: es) X.env)).all (fun x => !x.1) && (backToKw cpos (keywordEach [] X.env)).all (fun x => x.1.isSome)
      && decide ((e :: es).length + ([] : List Keyword).length + (if ([] : List Keyword).isEmpty then 0 else 1) < 30)) = true := by rfl)
    (hline : (apos.endLine == cpos.line) = true := by rfl) (hs : starEach (e :: es) X.env = (false, eval e X.env) :: starEach es X.env := by rfl) (hpl : (backTo cpos (starEach es X.env)).any (·.1) = false := by rfl) : EM X tabs cf (.Call (.Attribute o "index" apos) (e :: es) [] cpos) (.mt .index o' e') :=
  em_tix (fun to ta h1 h2 => pe_tix h1 h2 hbase hfew hline hs hpl) ho he
end
end Sw

set_option Elab.async false
set_option linter.all false
set_option maxRecDepth 100000
set_option maxHeartbeats 1000000
/-! x[i], x[j] = a, b -/
namespace Sw
open PySem PySem.Spec PyProof.Rows L2 GenW RZ
section
variable {X : Cx} {tabs : List Addr} {cf : CF} {a b i j : Expr} {a' b' i' j' : E} {pos : Pos}
/-- a store into the list that a slot holds -/
theorem store_rd {k : Nat} {σ : L2.St} {Z : Addr → Prop} {H : Hp} {env env2 env3 : En} {x y : T} {d : D} {v : V} {fl : Fl} {Q : L2.St → Hp → Prop} (st : StOk (kx X tabs) Z H σ env) (hmu : isMu env k .append = true) (he : ev cf i' true env = .ok y env2) (hd : x.d = some d)
    (hs : storeAt k x y env2 = .ok fl env3) (rd : Rep (kx X tabs) Z H d v) (q : ∀ Z3 H3, fl = .nx → GoS (kx X tabs) σ env Z H σ env3 Z3 H3 → (∀ {d v}, Rep (kx X tabs) Z H d v → Rep (kx X tabs) Z3 H3 d v) → Q σ H3) :
    gSub (tVar k) (RdE (kx X tabs) cf i' true) rSetL v σ H Q := by
  obtain ⟨b0, o0, e0⟩ : ∃ b0 o0, env[k]? = some (.mu b0 o0) := by
    unfold isMu at hmu
    split at hmu
    · rename_i b0 o0 e0; exact ⟨b0, _, e0⟩
    · rename_i b0 o0 e0; exact ⟨b0, _, e0⟩
    · cases hmu
  unfold storeAt at hs
  rw [hd] at hs
  cases y with
  | nu o => cases hs
  | im dj =>
    cases dj with
    | int n =>
      have hs : (match env2[k]? with
        | some (.mu b (.l xs)) => match ixE xs.length n with
          | some p => Res.ok Fl.nx (setW env2 k (.mu b (.l (xs.set p d))))
          | none => .bad
        | _ => .bad) = .ok fl env3 := hs
      split at hs
      · rename_i b xs e2
        cases hp2 : ixE xs.length n with
        | none => rw [hp2] at hs; cases hs
        | some p =>
          rw [hp2] at hs
          cases hs
          obtain ⟨ad, hσ, _⟩ := st.own e0
          refine ⟨.ref ad, hσ, Z, env, _, env2, st, he, fun w Z3 H3 g3 r3 => ?_⟩
          obtain ⟨a2, hσ2, ro1, _⟩ := g3.st.own e2
          rw [hσ] at hσ2
          cases hσ2
          obtain ⟨vs, ha, rv⟩ := (show ∃ vs, H3 ad = some (.lst vs) ∧ RepAll (kx X tabs) Z3 H3 xs vs from ro1)
          refine ⟨ad, vs, n, p, rfl, r3.v.int rfl, ha, by rw [← RepAll.len _ rv]; exact hp2, ?_⟩
          have r2 := Rep.keep (g3.keepK st) g3.zz d rd
          have kp := Go.setKeep (ho := .lst (vs.set p v)) g3.st e2 hσ
          have g4 := Go.setSlot (o' := .l (xs.set p d)) (ho := .lst (vs.set p v)) g3.st e2 hσ ⟨_, upd_same, RepAll.keep kp (fun _ z => z) _ (RepAll.set _ _ rv r2)⟩
          exact q Z3 _ rfl (g3.s.trans g4.s) fun {d v} r => Rep.keep kp (fun _ z => z) d (Rep.keep (g3.keepK st) g3.zz d r)
      · cases hs
    | _ => cases hs
theorem storeAt_d {k : Nat} {x y : T} {env env2 : En} {fl : Fl} (h : storeAt k x y env = .ok fl env2) : ∃ d, x.d = some d := by
  unfold storeAt at h
  cases hd : x.d with
  | none => rw [hd] at h; cases h
  | some d => exact ⟨d, rfl⟩
theorem sx_swp {k : Nat} {o1 o2 : Expr} {p1 p2 pt pv : Pos} {kt kv : Nat} (ho1 : PE X o1 (tVar k)) (ho2 : PE X o2 (tVar k)) (hi : EM X tabs cf i i') (hj : EM X tabs cf j j') (hv : EM X tabs cf (.Tuple [a, b] kv pv) (.tup (.cons a' (.cons b' .nil))))
    (hp : ∀ te t1 t2 ti tj, PE X (.Tuple [a, b] kv pv) te → PE X o1 t1 → PE X i ti → PE X o2 t2 → PE X j tj → PS X (.Assign [.Tuple [.Subscript o1 i p1, .Subscript o2 j p2] kt pt] (.Tuple [a, b] kv pv) pos) (tAsg te (gTup X.K 2 (gCons (gSub t1 ti rSetL) (gCons (gSub t2 tj rSetL) gNil))))) :
    SX X tabs cf (.Assign [.Tuple [.Subscript o1 i p1, .Subscript o2 j p2] kt pt] (.Tuple [a, b] kv pv) pos) (.swp k i' j' a' b') := by
  refine ⟨fun ok => ?_⟩
  simp only [okS, Bool.and_eq_true] at ok
  obtain ⟨oki, okj, oka, okb⟩ := ok
  have okt : okE (.tup (.cons a' (.cons b' .nil))) (.val false) = true := by
    simp only [okE, Bool.and_eq_true, and_true]
    exact ⟨oka, okb⟩
  refine Sw.PS.weak (hp _ _ _ _ _ (hv.run false okt) ho1 (hi.run true oki) ho2 (hj.run true okj)) fun D σ H h => ?_
  obtain ⟨Z, env, fl, env', st, hev, q⟩ := h
  obtain ⟨x, env1, h1, hev⟩ := Res.bind_ok (show (ev cf a' false env).bind _ = _ from hev)
  obtain ⟨y, env2, h2, hev⟩ := Res.bind_ok (show (ev cf b' false env1).bind _ = _ from hev)
  split at hev
  · rename_i mu1
    obtain ⟨pi, env3, h3, hev⟩ := Res.bind_ok (show (ev cf i' true env2).bind _ = _ from hev)
    obtain ⟨f1, env4, h4, hev⟩ := Res.bind_ok hev
    split at hev
    · rename_i mu2
      obtain ⟨pj, env5, h5, hev⟩ := Res.bind_ok (show (ev cf j' true env4).bind _ = _ from hev)
      obtain ⟨d1, e1⟩ := storeAt_d h4
      obtain ⟨d2, e2⟩ := storeAt_d hev
      have htup : ev cf (.tup (.cons a' (.cons b' .nil))) false env = .ok (.im (.tup [d1, d2])) env2 := by
        simp [ev_tup, evs_cons, h1, h2, Res.bind, evs_nil, Res.of, e1, e2, SL]
      refine ⟨Z, env, _, env2, st, htup, fun v Z1 H1 g1 r1 => ?_⟩
      have r1 : Rep (kx X tabs) Z1 H1 (.tup [d1, d2]) v := r1.t
      simp only [Rep, RepAll] at r1
      obtain ⟨p, vs, rfl, ht, v1, _, rfl, rv1, v2, _, rfl, rv2, rfl⟩ := r1
      refine ⟨p, [v1, v2], rfl, ht.sq, rfl, v1, [v2], rfl, ?_⟩
      refine store_rd g1.st mu1 h3 e1 h4 rv1 fun Z3 H3 ef1 g3 kr => ?_
      subst ef1
      refine ⟨v2, [], rfl, ?_⟩
      refine store_rd g3.st mu2 h5 e2 hev (kr rv2) fun Z5 H5 ef2 g5 _ => ?_
      subst ef2
      exact ⟨rfl, q σ Z5 H5 ((g1.s.trans g3).trans g5)⟩
    · cases hev
  · cases hev
theorem x_swp (k : Nat) {x : Str} {q1 q2 p1 p2 pt pv : Pos} {kt kv : Nat} (hi : EM X tabs cf i i') (hj : EM X tabs cf j j') (ha : EM X tabs cf a a') (hb : EM X tabs cf b b') (hc : X.calm = true)
    (hN : X.N[k]? = some x := by rfl) (hvv : Vis X.env.scope x := by first | exact Or.inl rfl | exact Or.inr (Or.inl rfl) | exact Or.inr (Or.inr rfl)) (hd : (x == ("__debug__" : Str)) = false := by decide) (hcd : (x == ("__classdict__" : Str)) = false := by decide)
    (s1 : starEach [a, b] X.env = (false, eval a X.env) :: starEach [b] X.env := by rfl) (s2 : starEach [b] X.env = (false, eval b X.env) :: starEach [] X.env := by rfl)
    (g1 : ∀ to ti, PE X (.Name x q1) to → PE X i ti → PG X (.Subscript (.Name x q1) i p1) (gSub to ti rSetL) := by (intro to ti h1 h2; exact pg_sub h1 h2 set_list))
    (g2 : ∀ to ti, PE X (.Name x q2) to → PE X j ti → PG X (.Subscript (.Name x q2) j p2) (gSub to ti rSetL) := by (intro to ti h1 h2; exact pg_sub h1 h2 set_list))
    (as1 : (assignEach [.Subscript (.Name x q1) i p1, .Subscript (.Name x q2) j p2] X.env).map (·.2) = assign (.Subscript (.Name x q1) i p1) X.env :: (assignEach [.Subscript (.Name x q2) j p2] X.env).map (·.2) := by rfl)
    (as2 : (assignEach [.Subscript (.Name x q2) j p2] X.env).map (·.2) = assign (.Subscript (.Name x q2) j p2) X.env :: (assignEach [] X.env).map (·.2) := by rfl)
    (hn : (assignEach [.Subscript (.Name x q1) i p1, .Subscript (.Name x q2) j p2] X.env).length = 2 := by rfl) (hst : (assignEach [.Subscript (.Name x q1) i p1, .Subscript (.Name x q2) j p2] X.env).findIdx? (·.1) = none := by rfl)
    (hs : swapsWithSole [.Tuple [.Subscript (.Name x q1) i p1, .Subscript (.Name x q2) j p2] kt pt] (.Tuple [a, b] kv pv) pos.line X.env = pure false := by rfl) (hw : swappedStores [.Tuple [.Subscript (.Name x q1) i p1, .Subscript (.Name x q2) j p2] kt pt] (.Tuple [a, b] kv pv) X.env = pure none := by rfl)
    (h1 : (assignEach [.Tuple [.Subscript (.Name x q1) i p1, .Subscript (.Name x q2) j p2] kt pt] X.env).map (·.2) = [assign (.Tuple [.Subscript (.Name x q1) i p1, .Subscript (.Name x q2) j p2] kt pt) X.env] := by rfl) :
    SX X tabs cf (.Assign [.Tuple [.Subscript (.Name x q1) i p1, .Subscript (.Name x q2) j p2] kt pt] (.Tuple [a, b] kv pv) pos) (.swp k i' j' a' b') :=
  sx_swp (pe_var hN hvv hd hcd) (pe_var hN hvv hd hcd) hi hj (em_tup (sm_cons s1 ha (sm_cons s2 hb sm_nil))) fun te t1 t2 ti tj a1 a2 a3 a4 a5 => ps_asg a1 (pg_tup hc (pgs_cons (g1 t1 ti a2 a3) (pgs_cons (g2 t2 tj a4 a5) pgs_nil as2) as1) hn hst) hs hw h1
end
end Sw

set_option Elab.async false
set_option linter.all false
set_option maxRecDepth 100000
set_option maxHeartbeats 1000000
/-! all(.. for ..) -/
namespace Sw
open PySem PySem.Spec PyProof.Rows L2 GenW
/-- nothing is gathered -/
def memN : Ow → List D → (Addr → Prop) → Hp → Prop := fun ps _ _ _ => ps = []
theorem memN_mono : ∀ ps acc Z H Z' H', memN ps acc Z H → Keep Z H H' → (∀ a, Z a → Z' a) → memN ps acc Z' H' := fun _ _ _ _ _ _ h _ _ => h
theorem GX.At.retell {S : GX} {ps : Ow} {s : Shared} {H : Hp} {Z : Addr → Prop} {env : En} {acc acc' : List D} (h : S.At ps s H Z env acc) (hm : S.Mem ps acc' Z H) : S.At ps s H Z env acc' :=
  ⟨h.inv, h.fpn, h.ow, h.gg, h.len, hm⟩
/-- the asker has no object of its own -/
theorem GX.At.start0 {S : GX} {s' : Shared} (I : Inv S.Y [(S.a, S.go)] (wipe S.σ S.own) S.H4 s') (o : S.Ok) (hfn : ∀ b ∈ S.fp, S.H4 b = none) (hm : S.Mem [] [] S.Z0 S.H4) : S.At [] s' S.H4 S.Z0 S.env0 [] :=
  ⟨I, hfn, (fun r hr => nomatch hr), Go.refl o.st, rfl, hm⟩
theorem drainA {S : GX} (o : S.Ok) (hkd : S.kd = .all) (hM : S.Mem = memN) {A : Around} (hA : A.in1.in1 = S.A) (hh : A.handled = none) (hroom : A.depth < recursionLimit) {g : Nat} (hgen : ∀ h : Heap, h.get? S.a = some S.go → h.IsGen S.a g) {R : Result → Shared → Prop}
    (hend : ∀ s' H Z env acc b, S.At [] s' H Z env acc → S.t = .im (.bl b) → S.envF = env → R (.ok (.ret (.bool b))) s') :
    ∀ (k j : Nat) (s : Shared) (gs : GenState), s.gens[g]? = some gs → Slp S.X.prog S.X.w A.in1 S.xs.length S.Core S.Mid S.Fin gs k j → (∃ H Z env acc, S.At [] s H Z env acc ∧ S.tn j s.heap ∧ S.loop j acc env) →
      codeAny (model S.X.prog S.X.w) A (.builtin "all.loop" ⟨[.ref S.a], []⟩) R s := by
  intro k
  induction k using Nat.strongRecOn with
  | _ k ih =>
    intro j s gs hgs hS ⟨H, Z, env, acc, hAt, htn, hl⟩
    have hgo := (hAt.inv.pin (S.a, S.go) (List.mem_append_right _ List.mem_cons_self)).1
    refine codeAny_builtin F.entry_all_loop ?_
    rw [Around.under_plainId F.plain_all_loop _]
    show wpAny _ A.in1 (pyNext (.ref S.a) >>= _) _ _ s
    refine wpAny_bind (g_next hh hroom hAt.inv.nolimit (hgen _ hgo) hgs hS ⟨_, H, Z, env, acc, hAt.regen rfl rfl (setGen_bare hAt.bare rfl), htn, hl⟩ (fun j k' v s1 gs' ek hb hsz hMid hS' => ?_) fun s1 hF h' hk => ?_)
    rotate_left
    · obtain ⟨ps, H1, Z1, env1, acc1, hO, hAt1, hE, hv⟩ := hF
      have hm := hAt1.mem
      rw [hM] at hm
      obtain rfl : ps = [] := hm
      rw [hkd] at hE
      have hE : some (T.im (.bl true)) = some S.t := hE
      exact wpAny_bind (wpAny_rule (wpAny_pure (hend _ H1 Z1 env1 acc1 true (hAt1.kept rfl hk (setGen_bare hAt1.bare rfl)) (Option.some.inj hE).symm hv)))
    obtain ⟨ps, H1, Z1, env1, acc1, t1, x, hO, hAt1, htn1, rx, rt, hl1⟩ := hMid
    have hm := hAt1.mem
    rw [hM] at hm
    obtain rfl : ps = [] := hm
    rw [hkd] at hl1
    obtain ⟨b, et1, hl2⟩ : ∃ b, t1 = .im (.bl b) ∧ ((b = true ∧ S.loop (j + 1) [] env1) ∨ (b = false ∧ S.t = .im (.bl false) ∧ S.envF = env1)) := by
      rcases hl1 with ⟨acc', hacc, hl1⟩ | ⟨c, hacc, h2, h3⟩
      · cases t1 with
        | nu _ => cases hacc
        | im d =>
          cases d with
          | bl b =>
            cases b with
            | true => cases hacc; exact ⟨true, rfl, .inl ⟨rfl, hl1⟩⟩
            | false => cases hacc
          | _ => cases hacc
      · cases t1 with
        | nu _ => cases hacc
        | im d =>
          cases d with
          | bl b =>
            cases b with
            | true => cases hacc
            | false => cases hacc; exact ⟨false, rfl, .inr ⟨rfl, h2, h3⟩⟩
          | _ => cases hacc
    rw [et1] at rt
    have rt : x = .bl b := rt
    subst rt
    obtain rfl : v = Value.bool b := rx
    refine wpAny_bind (wpAny_holding (wpAny_truthy_bool ?_))
    refine wpAny_bind (wpAny_letGo ?_)
    have hN : S.Mem [] [] Z1 H1 := by rw [hM]; rfl
    have hAt2 : S.At [] (s1.setGen g gs') H1 Z1 env1 acc1 := hAt1.regen rfl rfl (setGen_bare hAt1.bare hb)
    rcases hl2 with ⟨rfl, hl2⟩ | ⟨rfl, h2, h3⟩
    · simp only [if_true]
      exact wpAny_pure ⟨plainId_quiet F.plain_all_loop _, ih k' (by omega) (j + 1) _ gs' (setGen_get hsz) hS' ⟨H1, Z1, env1, [], hAt2.retell hN, htn1, hl2⟩⟩
    · simp only [Bool.false_eq_true, if_false]
      exact wpAny_bind (wpAny_rule (wpAny_pure (hend _ H1 Z1 env1 acc1 false hAt2 h2 h3)))
section
variable {P : Program} {w : World} {A : Around} {E : Value → Shared → Prop} {s : Shared}
theorem call_all_by {a : Addr} {g : Nat} {Q : Value → Shared → Prop} (hg : s.heap.IsGen a g) (h : codeAny (model P w) A (.builtin "all.loop" ⟨[.ref a], []⟩) (wants Q E) s) :
    wpAny (model P w) A (call (.builtin "all") [.ref a]) Q E s := by
  refine call_function_tree F.kind_all F.plain_all F.entry_all (F.args_all1 _) ?_
  unfold Builtin.«all»
  refine wpAny_bind (m := oneArg "all" _) (wpAny_pure ?_)
  refine wpAny_bind (wpAny_pyIter_gen hg ?_)
  refine wpAny_pure ⟨plainId_quiet F.plain_all_loop _, ?_⟩
  exact codeAny_mono h fun r s' hr => hr
end
section
variable {X : Cx} {tabs : List Addr} {cf : CF} {pos : Pos}
theorem em_gall {gb : Bool} {c P : Addr} {elt tg iter : Expr} {ifs : List Expr} {scope : Scope} {ow : List (Str × Nat)} {g : G} {it' f' e' : E} {l : Nat} {p gpos : Pos}
    (hr : Room (l + 1) X.A) (hgd : GdOk gb X.A) (hgl : Gl X "all") (hmg : X.mg "all" = none) (TB : GxR.TabB X.base X.mg c P) (hP : P ∈ tabs) (hcode : X.env.code = .ref c) (okb : BlkOk X.N X.env.scope scope ow) (gk : GScp scope) (hN : X.N.Nodup) (hi : IM X tabs cf tg iter it') (hs : ∀ v, genFold iter X.env v = pure v)
    (hg : ∀ (A : Around) (s : Shared) (H : Hp) (C : Addr) (code : Value) (fp : List Addr), PG (gcx X A s H (genv X scope C code) fp) tg (RdG (kx X tabs) g))
    (hf : ∀ (A : Around) (s : Shared) (H : Hp) (C : Addr) (code : Value) (fp : List Addr), Room l (A.deeper (genv X scope C code)) → GdOk gb A → TsM (gcx X A s H (genv X scope C code) fp) tabs cf ifs f')
    (he : ∀ (A : Around) (s : Shared) (H : Hp) (C : Addr) (code : Value) (fp : List Addr), Room l (A.deeper (genv X scope C code)) → GdOk gb A → EM (gcx X A s H (genv X scope C code) fp) tabs cf elt e')
    (hst : starEach [.GeneratorExp elt [⟨tg, iter, ifs, 0⟩] scope gpos] X.env = (false, eval (.GeneratorExp elt [⟨tg, iter, ifs, 0⟩] scope gpos) X.env) :: starEach [] X.env := by rfl) (hv : bootBuiltins "all" = some (.builtin "all") := by decide +kernel) :
    EM X tabs cf (.Call (.Name "all" p) [.GeneratorExp elt [⟨tg, iter, ifs, 0⟩] scope gpos] [] pos) (.lc .all (ow.map (·.2)) g it' f' e') := by
  refine ⟨fun vw ok => ⟨fun pins s σ H Q I h => ?_⟩⟩
  refine wpAny_Call_Name_kw (ld_blt (u := .builtin "all") I hgl hmg hv ?_)
  refine PyProof.Rows.callWith_builtin1 ?_ hst (by rfl)
  rw [hst]
  show wpAny _ _ (spliced ((false, eval (.GeneratorExp elt [⟨tg, iter, ifs, 0⟩] scope gpos) X.env) :: backTo pos (starEach [] X.env))) _ _ s
  refine Calls.spliced_cons (gx_ready (l := l) hr TB hP hcode okb gk hN hi hs hg hf he ok I h fun S s5 g0 eX eσ ekd Rd => ?_)
  refine Calls.spliced_nil ?_
  subst eX eσ
  have I5 := Rd.inv S.X.A.in1.in1 I.ok.frames hr.hd
  have hgo : s5.heap.get? S.a = some S.go := (I5.pin (S.a, S.go) (List.mem_append_right _ (List.mem_singleton.mpr rfl))).1
  have hok : GX.Ok { S with A := S.X.A.in1.in1, Mem := memN } := Rd.ok S.X.A.in1.in1 memN I.ok.frames hr.hd ⟨hr.hd, by have := hr.dp; show S.X.A.depth + 1 + 3 * l + 5 < _; omega, by have := hr.un; show S.X.A.units + 1 + 1 + 3 + 16 * l + 200 < _; omega⟩ hgd memN_mono
  refine call_all_by (Rd.gen _ hgo) (drainA (S := { S with A := S.X.A.in1.in1, Mem := memN }) hok ekd rfl (A := S.X.A) rfl hr.hd (by have := hr.dp; show S.X.A.depth < _; omega) Rd.gen (fun s' H1 Z1 env1 acc b hAt ht hen => ?_) S.xs.length 0 s5 _ Rd.gs (GX.fresh hok Rd.co rfl)
    ⟨S.H4, S.Z0, S.env0, [], GX.At.start0 I5 hok (fun b hb => (Rd.fpk b hb).1.1) rfl, Rd.tn0, ?_⟩)
  · have IB := hAt.back Rd.I4 fun b hb => (Rd.fpk b hb).1
    refine ⟨.bl b, H1, IB, rfl, ?_⟩
    have gO := Go.out Rd.st hAt.gg hAt.len fun i hi => by simpa using (List.mem_filter.mp hi).2
    rw [← hen] at gO
    have ht : S.t = .im (.bl b) := ht
    refine Rd.out _ Z1 _ gO (fun d hd => ?_) ⟨_, ht⟩
    rw [ht] at hd
    cases hd
    simp only [Rep]
  · show lcLoop _ _ _ _ _ (S.xs.drop 0) [] S.env0 = _
    rw [List.drop_zero]
    exact Rd.loop0
end
end Sw

set_option Elab.async false
set_option linter.all false
set_option maxRecDepth 100000
set_option maxHeartbeats 1000000
/-! index of a list; set(), add. -/
namespace Sw
open PySem PySem.Spec PyProof.Rows L2 GenW RZ
section
variable {X : Cx} {tabs : List Addr} {cf : CF} {e o : Expr} {es : List Expr} {e' o' : E} {apos cpos p pos : Pos}
theorem mtV_lindex (x : T) (ds : List D) : mtV .lindex x ds = none := by unfold mtV; cases x.d with | none => rfl | some d => cases d <;> rfl
theorem em_lindex {k : Nat} (hp : ∀ (to : TE) (ta : TA), PE X o to → PA X es ta → PE X (.Call (.Attribute o "index" apos) es [] cpos) (tBM X.K "list" (rIndex X.K) to ta)) (ho : PE X o (tVar k)) (he : SM X tabs cf es e') : EM X tabs cf (.Call (.Attribute o "index" apos) es [] cpos) (.mt .lindex (.v k) e') := by
  refine em_mtO (C := fun x H1 => tyV X.K "list" x H1) (r := rIndex X.K) (fun to ta h1 h2 => hp to ta h1 h2) (hC_list (fun q => by cases q)) (fun H a o o' Z ds d vs Q r1 r2 hm q => ?_) mtV_lindex ho he
  cases o with
  | s _ => cases ds <;> cases hm
  | l xs =>
    cases ds with
    | nil => cases hm
    | cons y ys =>
      cases ys with
      | cons _ _ => cases hm
      | nil =>
        have hm : (if y.pl && xs.all D.pl then (findIx y xs).map fun k => (D.int k, O.l xs) else none) = some (d, o') := hm
        split at hm
        · rename_i hpl
          simp only [Bool.and_eq_true] at hpl
          cases hfi : findIx y xs with
          | none => rw [hfi] at hm; cases hm
          | some n =>
            rw [hfi] at hm
            cases hm
            obtain ⟨ws, h1, r1⟩ := (show ∃ vs, H a = some (.lst vs) ∧ RepAll (kx X tabs) Z H xs vs from r1)
            simp only [RepAll] at r2
            obtain ⟨v, _, rfl, r2, rfl⟩ := r2
            obtain ⟨⟨z, z1, z2⟩, zn⟩ := findIx_spec hfi
            have pls : ∀ w ∈ xs, D.pl w = true := List.all_eq_true.mp hpl.2
            obtain ⟨vz, w1, w2⟩ := RepAll.get _ r1 z1
            have hu : upd H a (.lst ws) = H := by
              funext x
              by_cases hx : x = a
              · subst hx; rw [upd_same, h1]
              · rw [upd_ne hx]
            have qq := q (.int (n : Nat)) (.lst ws) (by simp only [Rep]) fun kp => ⟨ws, upd_same, by rw [hu]; exact r1⟩
            rw [hu] at qq
            refine ⟨a, ws, v, n, vz, rfl, rfl, .of h1, pl_rep hpl.1 r2, pl_all xs hpl.2 r1, w1, ?_, fun m u hm hu => ?_, qq⟩
            · rw [pl_eq (pls z (List.mem_of_getElem? z1)) hpl.1 w2 r2]
              exact z2
            · have hm2 : m < xs.length := by
                have := (List.getElem?_eq_some_iff.mp z1).1
                omega
              obtain ⟨u2, a1, a2⟩ := RepAll.get _ r1 (List.getElem?_eq_getElem hm2)
              rw [hu] at a1
              cases a1
              rw [pl_eq (pls _ (List.getElem_mem hm2)) hpl.1 a2 r2]
              exact zn m _ hm (List.getElem?_eq_getElem hm2)
        · cases hm
theorem e_lindex (k : Nat) {x : Str} {px apos cpos : Pos} (he : SM X tabs cf (e :: es) e') (hN : X.N[k]? = some x := by rfl) (hv : Vis X.env.scope x := by first | exact Or.inl rfl | exact Or.inr (Or.inl rfl) | exact Or.inr (Or.inr rfl)) (hd : (x == ("__debug__" : Str)) = false := by decide) (hcd : (x == ("__classdict__" : Str)) = false := by decide)
    (hbase : attributeBase (.Name x px) "index" X.env (eval (.Name x px) X.env) = eval (.Name x px) X.env := by rfl)
    (hfew : ((backTo cpos (starEach (e :: es) X.env)).all (fun x => !x.1) && (backToKw cpos (keywordEach [] X.env)).all (fun x => x.1.isSome)
      && decide ((e :: es).length + ([] : List Keyword).length + (if ([] : List Keyword).isEmpty then 0 else 1) < 30)) = true := by rfl)
    (hline : (apos.endLine == cpos.line) = true := by rfl) (hs : starEach (e :: es) X.env = (false, eval e X.env) :: starEach es X.env := by rfl) (hplain : (backTo cpos (starEach es X.env)).any (·.1) = false := by rfl) :
    EM X tabs cf (.Call (.Attribute (.Name x px) "index" apos) (e :: es) [] cpos) (.mt .lindex (.v k) e') :=
  em_lindex (fun to ta h1 h2 => pe_bm PySem.F.plainAttrs_list PySem.F.slot_list_index PySem.F.type_list_index L2.mt_index h1 h2 hbase hfew hline hs hplain) (pe_var hN hv hd hcd) he
theorem hC_set {k : Nat} (H : Hp) (a : Addr) (env : En) (b : Bool) (o : O) (Z : Addr → Prop) (r : ORep (kx X tabs) Z H a o) (e1 : env[k]? = some (.mu b o)) (h1 : isMu env k .add = true) : ∃ c S n, V.ref a = V.ref c ∧ H c = some (SetO X.w c S n) := by
  obtain ⟨ds, rfl⟩ := isMu_s e1 h1
  obtain ⟨_, h⟩ := (show ds.Nodup ∧ H a = some (SetO X.w a (fun j => ds.contains j) ds.length) from r)
  exact ⟨a, _, _, rfl, h⟩
theorem em_sadd {k : Nat} (hp : ∀ (to : TE) (ta : TA), PE X o to → PA X es ta → PE X (.Call (.Attribute o "add" apos) es [] cpos) (tSAdd X.w to ta)) (ho : PE X o (tVar k)) (he : SM X tabs cf es e') : EM X tabs cf (.Call (.Attribute o "add" apos) es [] cpos) (.mt .add (.v k) e') := by
  refine em_mtO (C := fun x H1 => ∃ a S n, x = V.ref a ∧ H1 a = some (SetO X.w a S n)) (r := rSAdd X.w) (fun to ta h1 h2 => hp to ta h1 h2) hC_set (fun H a o o' Z ds d vs Q r1 r2 hm q => ?_) mtV_add ho he
  cases o with
  | l _ => cases ds <;> cases hm
  | s xs =>
    cases ds with
    | nil => cases hm
    | cons y ys =>
      cases ys with
      | cons _ _ => cases y <;> cases hm
      | nil =>
        cases y with
        | int i =>
          have hm : (if xs.length < 4000 then some (D.non, O.s (if xs.contains i then xs else i :: xs)) else none) = some (d, o') := hm
          split at hm
          · rename_i hl
            cases hm
            obtain ⟨nd, h1⟩ := (show xs.Nodup ∧ H a = some (SetO X.w a (fun j => xs.contains j) xs.length) from r1)
            simp only [RepAll] at r2
            obtain ⟨v, _, rfl, r2, rfl⟩ := r2
            obtain rfl : v = .int i := by simpa only [Rep] using r2
            refine ⟨a, i, _, _, rfl, rfl, h1, by have : scanBound = 4096 := rfl; omega, q .non _ rfl fun kp => ?_⟩
            have ef : (fun j => xs.contains j || decide (j = i)) = fun j => (if xs.contains i then xs else i :: xs).contains j := by
              funext j
              split
              · rename_i hc
                by_cases e : j = i
                · subst e; rw [hc]; rfl
                · rw [decide_eq_false e, Bool.or_false]
              · rw [List.contains_cons, Bool.or_comm]
                congr 1
            have en : (if xs.contains i = true then xs.length else xs.length + 1) = (if xs.contains i then xs else i :: xs).length := by split <;> simp
            refine ⟨?_, ?_⟩
            · split
              · exact nd
              · rename_i hc
                exact List.nodup_cons.mpr ⟨fun hi => hc (List.contains_iff_mem.mpr hi), nd⟩
            · rw [upd_same]
              rw [← en, ← ef]
          · cases hm
        | _ => cases hm
theorem e_sadd (k : Nat) {x : Str} {px apos cpos : Pos} (he : SM X tabs cf (e :: es) e') (hN : X.N[k]? = some x := by rfl) (hv : Vis X.env.scope x := by first | exact Or.inl rfl | exact Or.inr (Or.inl rfl) | exact Or.inr (Or.inr rfl)) (hd : (x == ("__debug__" : Str)) = false := by decide) (hcd : (x == ("__classdict__" : Str)) = false := by decide)
    (hbase : attributeBase (.Name x px) "add" X.env (eval (.Name x px) X.env) = eval (.Name x px) X.env := by rfl)
    (hfew : ((backTo cpos (starEach (e :: es) X.env)).all (fun x => !x.1) && (backToKw cpos (keywordEach [] X.env)).all (fun x => x.1.isSome)
      && decide ((e :: es).length + ([] : List Keyword).length + (if ([] : List Keyword).isEmpty then 0 else 1) < 30)) = true := by rfl)
    (hline : (apos.endLine == cpos.line) = true := by rfl) (hs : starEach (e :: es) X.env = (false, eval e X.env) :: starEach es X.env := by rfl) (hplain : (backTo cpos (starEach es X.env)).any (·.1) = false := by rfl) :
    EM X tabs cf (.Call (.Attribute (.Name x px) "add" apos) (e :: es) [] cpos) (.mt .add (.v k) e') :=
  em_sadd (fun to ta h1 h2 => pe_sadd h1 h2 hbase hfew hline hs hplain) (pe_var hN hv hd hcd) he
theorem e_set0 (hm : X.mg "set" = none) (hg : Gl X "set" := by rfl) : EM X tabs cf (.Call (.Name "set" p) [] [] pos) (.bi .set .nil) := by
  refine ⟨fun vw ok => ?_⟩
  refine Sw.PE.weak (pe_callTy0 (cr_set0 (X := X)) hg hm PyProof.Rows.boot_set) fun σ H Q h => ?_
  obtain ⟨Z, env, t, env', st, he, q⟩ := h
  rw [ev_bi rfl] at he
  obtain ⟨ts, env1, h1, he⟩ := Res.bind_ok he
  obtain ⟨hf, rfl⟩ := Res.of_ok he
  have e0 : evt cf .nil env = .ok [] env := rfl
  rw [e0] at h1
  cases h1
  exact serves_set (k := kx X tabs) σ Z Z H H env env (tou (.bi .set .nil) (.val vw)) [] t [] Q st (Go.refl st) rfl hf fun v' H' g r => q v' Z H' g (.nu r)
end
end Sw

set_option Elab.async false
set_option linter.all false
set_option maxRecDepth 100000
set_option maxHeartbeats 1000000
/-! bits of whole numbers; pop(). -/
namespace Sw
open PySem PySem.Spec PyProof.Rows L2 GenW RZ
section
variable {X : Cx} {tabs : List Addr} {cf : CF} {a b e o : Expr} {a' b' e' o' : E} {pos p apos cpos : Pos}
theorem em_shl (ha : EM X tabs cf a a') (hb : EM X tabs cf b b') : EM X tabs cf (.BinOp a .LShift b pos) (.op .shl a' b') := by
  refine em_bin op_shl (serves_int fun x y t e => ?_) ha hb
  obtain ⟨c, d, ex, ey, e⟩ := binop_inv e
  cases c <;> cases d <;> try (cases e; done)
  rename_i i j
  have e : (if 0 ≤ j ∧ j ≤ 1000 ∧ i.natAbs < 2 ^ 64 then some (T.im (.int (i * 2 ^ j.toNat))) else none) = some t := e
  split at e
  · rename_i z
    cases e
    exact ⟨i, j, ex, ey, ⟨z.1, by omega, z.2.2⟩, rfl⟩
  · cases e
theorem em_shr (ha : EM X tabs cf a a') (hb : EM X tabs cf b b') : EM X tabs cf (.BinOp a .RShift b pos) (.op .shr a' b') := by
  refine em_bin op_shr (serves_int fun x y t e => ?_) ha hb
  obtain ⟨c, d, ex, ey, e⟩ := binop_inv e
  cases c <;> cases d <;> try (cases e; done)
  rename_i i j
  have e : (if 0 ≤ j ∧ j ≤ 1000 then some (T.im (.int (i / 2 ^ j.toNat))) else none) = some t := e
  split at e
  · rename_i z
    cases e
    exact ⟨i, j, ex, ey, z.1, rfl⟩
  · cases e
theorem and_nn {i j : Int} (hi : 0 ≤ i) (hj : 0 ≤ j) : Builtin.bitAnd i j = ((i.toNat &&& j.toNat : Nat) : Int) := by
  unfold Builtin.bitAnd
  rw [decide_eq_true hi, decide_eq_true hj]
theorem em_band (ha : EM X tabs cf a a') (hb : EM X tabs cf b b') : EM X tabs cf (.BinOp a .BitAnd b pos) (.op .band a' b') := by
  refine em_bin op_and (fun σ Z Z2 H H2 env env2 tt xs ys x y t v w Q st go rx ry e q => ?_) ha hb
  obtain ⟨c, d, ex, ey, e⟩ := binop_inv e
  cases c <;> cases d <;> try (cases e; done)
  rename_i i j
  have e : (if 0 ≤ i ∧ 0 ≤ j then some (T.im (.int ((i.toNat &&& j.toNat : Nat) : Int))) else none) = some t := e
  split at e
  · rename_i z
    cases e
    refine ⟨i, j, rx.int ex, ry.int ey, ?_⟩
    show Q (V.int (Builtin.bitAnd i j)) H2
    rw [and_nn z.1 z.2]
    exact q _ _ go TRep.int
  · cases e
theorem em_bxor (ha : EM X tabs cf a a') (hb : EM X tabs cf b b') : EM X tabs cf (.BinOp a .BitXor b pos) (.op .bxor a' b') := by
  refine em_bin op_xor (fun σ Z Z2 H H2 env env2 tt xs ys x y t v w Q st go rx ry e q => ?_) ha hb
  obtain ⟨c, d, ex, ey, e⟩ := binop_inv e
  cases c <;> cases d <;> try (cases e; done)
  rename_i i j
  have e : (if 0 ≤ i ∧ 0 ≤ j then some (T.im (.int (i + j - 2 * ((i.toNat &&& j.toNat : Nat) : Int)))) else none) = some t := e
  split at e
  · rename_i z
    cases e
    refine ⟨i, j, rx.int ex, ry.int ey, ?_⟩
    show Q (V.int (Builtin.bitXor i j)) H2
    rw [PyProof.Rows.bitXor_and, and_nn z.1 z.2]
    exact q _ _ go TRep.int
  · cases e
theorem e_pop0 (k : Nat) {x : Str} {px apos cpos : Pos} (hN : X.N[k]? = some x := by rfl) (hv : Vis X.env.scope x := by first | exact Or.inl rfl | exact Or.inr (Or.inl rfl) | exact Or.inr (Or.inr rfl)) (hd : (x == ("__debug__" : Str)) = false := by decide) (hcd : (x == ("__classdict__" : Str)) = false := by decide)
    (hbase : attributeBase (.Name x px) "pop" X.env (eval (.Name x px) X.env) = eval (.Name x px) X.env := by rfl) (hline : (apos.endLine == cpos.line) = true := by rfl) :
    EM X tabs cf (.Call (.Attribute (.Name x px) "pop" apos) [] [] cpos) (.mt .pop (.v k) .nil) := by
  refine em_pop2 fun _ => ?_
  refine Sw.PE.weak (pe_bm0 (r := rPop) PySem.F.plainAttrs_list PySem.F.slot_list_pop PySem.F.type_list_pop L2.mt_pop (pe_var hN hv hd hcd) hbase hline) fun σ H Q h => ?_
  obtain ⟨v, hv2, ht, Z, env, ds, env', st, he, q⟩ := h
  cases he
  refine ⟨v, hv2, ht, ?_⟩
  rcases q [] Z H (Go.refl st) (by simp only [RepAll]) with z | z
  · exact z
  · obtain ⟨_, _, _, _, _, _, z, _⟩ := z
    cases z
theorem e_bits (ho : EM X tabs cf o o') (hbase : attributeBase o "bit_length" X.env (eval o X.env) = eval o X.env := by rfl) (hline : (apos.endLine == pos.line) = true := by rfl) : EM X tabs cf (.Call (.Attribute o "bit_length" apos) [] [] pos) (.mt .bitlen o' .nil) := by
  refine ⟨fun vw ok => ?_⟩
  simp only [okE, Bool.and_eq_true] at ok
  refine Sw.PE.weak (pe_bits (ho.run true ok.1) hbase hline) fun σ H Q h => ?_
  obtain ⟨Z, env, t, env', st, hev, q⟩ := h
  have key : ∃ x, ev cf o' true env = .ok x env' ∧ mtV .bitlen x [] = some t := by
    cases hsl : slotOf o' with
    | none =>
      rw [ev_mtV hsl] at hev
      obtain ⟨x, env1, h1, hev⟩ := Res.bind_ok hev
      obtain ⟨ds, env2, h2, hev⟩ := Res.bind_ok hev
      obtain ⟨hf, rfl⟩ := Res.of_ok hev
      cases h2
      exact ⟨x, h1, hf⟩
    | some k =>
      have ev1 : o' = .v k := by
        cases o' <;> first | (cases hsl; done) | (cases hsl; rfl)
      subst ev1
      rw [ev_mt] at hev
      split at hev
      · obtain ⟨ds, env2, h2, hev⟩ := Res.bind_ok hev
        exfalso
        cases h2
        unfold mtSlot at hev
        split at hev
        · rename_i c ob hob
          have e0 : mtO .bitlen ob [] = none := by cases ob <;> rfl
          have e1 : mtV .bitlen (.nu ob) [] = none := by cases ob <;> rfl
          rw [e0] at hev
          simp only [e1] at hev
          cases hev
        · cases hev
      · obtain ⟨x, env1, h1, hev⟩ := Res.bind_ok hev
        obtain ⟨ds, env2, h2, hev⟩ := Res.bind_ok hev
        obtain ⟨hf, rfl⟩ := Res.of_ok hev
        cases h2
        exact ⟨x, by rw [ev_v]; exact h1, hf⟩
  obtain ⟨x, h1, hf⟩ := key
  refine ⟨Z, env, x, env', st, h1, fun v Z1 H1 g1 r1 => ?_⟩
  unfold mtV at hf
  split at hf
  · contradiction
  · rename_i i _ hx _
    split at hf
    · rename_i hpos
      cases hf
      obtain rfl : v = .int i := r1.v.int hx
      refine ⟨i, rfl, ?_⟩
      have e : Builtin.Int.intBits i = Nat.log2 i.natAbs + 1 := by
        unfold Builtin.Int.intBits
        rw [if_neg (by simp; omega)]
      rw [e]
      refine q _ Z1 H1 (g1.mono fun j hj => ?_) (.im (by simp only [Rep]))
      simp only [tou, List.mem_append]
      left
      cases hsl : slotOf o' with
      | none => exact hj
      | some k =>
        have ev1 : o' = .v k := by
          cases o' <;> first | (cases hsl; done) | (cases hsl; rfl)
        subst ev1
        simp [tou, Md.vw] at hj
    · cases hf
  · cases hf
end
end Sw

set_option Elab.async false
set_option linter.all false
set_option maxRecDepth 100000
/-! all(list) -/
namespace Sw
open PySem PySem.Spec PyProof.Rows L2 GenW RZ
theorem bls_map {k : Kx} {Z : Addr → Prop} {H : Hp} : ∀ (ds : List D) {vs : List V} {bs : List Bool}, RepAll k Z H ds vs → blsOf ds = some bs → vs = bs.map V.bl
  | [], vs, bs, r, h => by
    cases h
    simp only [RepAll] at r
    exact r
  | .bl b :: r, vs, bs, hr, h => by
    unfold blsOf at h
    cases e : blsOf r with
    | none => rw [e] at h; cases h
    | some ms =>
      rw [e] at h
      cases h
      simp only [RepAll] at hr
      obtain ⟨v, ws, rfl, hv, hw⟩ := hr
      rw [bls_map r hw e]
      simp only [Rep] at hv
      rw [hv]
      rfl
  | .non :: _, _, _, _, h => by cases h
  | .int _ :: _, _, _, _, h => by cases h
  | .str _ :: _, _, _, _, h => by cases h
  | .tup _ :: _, _, _, _, h => by cases h
  | .lst _ :: _, _, _, _, h => by cases h
  | .pr _ :: _, _, _, _, h => by cases h
  | .ty _ :: _, _, _, _, h => by cases h
theorem serves_all {k : Kx} : ServesB k (fun vs H Q => rAll k.K vs H Q) .all := by
  intro σ Z Z2 H H2 env env2 tt ts t vs Q st go r e q
  obtain ⟨x, hx, e9⟩ := oneT_some (show oneT _ ts = some t from e)
  clear e
  subst hx
  have e := e9
  clear e9
  obtain ⟨v, xs, rfl, h⟩ := r.one
  unfold allT at e
  split at e
  · rename_i ds hd
    cases hn : blsOf ds with
    | none => rw [hn] at e; cases e
    | some bs =>
      rw [hn] at e
      cases e
      obtain ⟨a, vs, rfl, h1, h2⟩ := h.lst hd
      obtain rfl := bls_map ds h2 hn
      exact ⟨a, bs, rfl, h1, q _ _ go TRep.bl⟩
  · cases e
section
variable {X : Cx} {tabs : List Addr} {cf : CF} {e : Expr} {es : List Expr} {e' : E} {pos p : Pos}
theorem e_all (hm : X.mg "all" = none) (hc : X.calm = true) (h : LM X tabs cf (e :: es) e') (hg : Gl X "all" := by rfl) (he : starEach (e :: es) X.env = (false, eval e X.env) :: starEach es X.env := by rfl) (hpl : (backTo pos (starEach es X.env)).any (·.1) = false := by rfl) (hv : bootBuiltins "all" = some (.builtin "all") := by decide +kernel) : EM X tabs cf (.Call (.Name "all" p) (e :: es) [] pos) (.bi .all e') :=
  em_bi (fun _ ha => pe_callB (cr_all hc) hg hm hv ha (by decide) (by decide) he hpl) rfl serves_all h
end
end Sw

set_option Elab.async false
set_option linter.all false
set_option maxRecDepth 100000
/-! tuple(reversed(tuple)) -/
namespace Sw
open PySem PySem.Spec PyProof.Rows L2 GenW RZ
open RT (IsRt IsRt.typeIs)
theorem rt_no_len : typeLookup (.type "reversed") "__len__" = pure none := by rw [typeLookup_type, builtinLookup_eq_fast]; kernel_rfl
theorem rt_hint : Slot "reversed" "__length_hint__" "reversed.__length_hint__" :=
  .of (owner := "reversed") (n := "__length_hint__") (by rw [typeLookup_type, builtinLookup_eq_fast]; kernel_rfl) (by decide +kernel) (by decide +kernel) (by decide +kernel)
    (by first | exact .inl (by decide +kernel) | exact .inr (by decide +kernel)) (by rw [isSubtype_type]; kernel_rfl)
theorem rt_hint_entry : entryFor table "reversed.__length_hint__" = some Builtin.«reversed.__length_hint__» := entryFor_of_tree (by kernel_rfl)
theorem rt_hint_args (a : Value) : argsOk "reversed.__length_hint__" ⟨[a], []⟩ := by
  unfold argsOk; rw [signature?_of (id := "reversed.__length_hint__") (n := "__length_hint__".toList.reverse) (o := ['d', 'e', 's', 'r', 'e', 'v', 'e', 'r']) (by kernel_rfl) RT.owner_rt]; kernel_rfl
section
variable {P : Program} {w : World} {A : Around} {E : Value → Shared → Prop} {s : Shared}
theorem rt_hint_call {it t : Addr} {items : Array Value} {Q : Value → Shared → Prop} (hit : IsRt s.heap it t ((items.size : Int) - 1))
    (hlen : ∀ (A : Around) (E : Value → Shared → Prop) (Q : Value → Shared → Prop), Q (.int items.size (s.toks + 1)) { s with toks := s.toks + 1 + 1 } → wpAny (model P w) A (call (.builtin "len") [.ref t]) Q E s)
    (hQ : ∀ tk tk', Q (.int items.size tk) { s with toks := tk' }) : wpAny (model P w) A (call (.builtin "reversed.__length_hint__") [.ref it]) Q E s := by
  obtain ⟨o, ho, hc, hd⟩ := id hit
  refine wpAny_call_entry rt_hint hit.typeIs rt_hint_entry ?_ (rt_hint_args _)
  unfold Builtin.«reversed.__length_hint__»
  refine wpAny_bind (wpAny_of_eq (a := Value.ref it) rfl ?_)
  refine wpAny_bind (wpAny_field ho hd (x := .ref t) rfl ?_)
  try dsimp only
  rw [if_neg (show ¬ (Value.ref t == Value.none) = true from Bool.false_ne_true)]
  refine wpAny_bind (hlen _ _ _ ?_)
  refine wpAny_bind (wpAny_of_eq (a := some ((items.size : Nat) : Int)) rfl ?_)
  try dsimp only
  refine wpAny_bind (wpAny_field (s := { s with toks := s.toks + 1 + 1 }) ho hd (x := rawInt ((items.size : Int) - 1)) rfl ?_)
  show wpAny _ _ (if ((items.size : Nat) : Int) < ((items.size : Int) - 1) + 1 then _ else _) _ _ _
  rw [if_neg (by omega)]
  have e : (items.size : Int) - 1 + 1 = (items.size : Int) := by omega
  rw [e]
  refine wpAny_bind (wpAny_mkInt ?_)
  exact wpAny_pure ⟨_, rfl, hQ _ _⟩
theorem rt_room {it t : Addr} {items : Array Value} {Q : Bool → Shared → Prop} (hit : IsRt s.heap it t ((items.size : Int) - 1)) (hn : items.size ≤ sizeLine)
    (hlen : ∀ (A : Around) (E : Value → Shared → Prop) (Q : Value → Shared → Prop), Q (.int items.size (s.toks + 1)) { s with toks := s.toks + 1 + 1 } → wpAny (model P w) A (call (.builtin "len") [.ref t]) Q E s)
    (hQ : ∀ tk, Q ((items.size : Int) != 0) { s with toks := tk }) : wpAny (model P w) A (Builtin.List.listLengthHint (.ref it)) Q E s := by
  have hT := hit.typeIs
  unfold Builtin.List.listLengthHint
  refine wpAny_bind (wpAny_specialOf hT rt_no_len ?_)
  show wpAny _ A (specialOf (Value.ref it) (Str.ofString "__length_hint__") >>= _) _ _ _
  refine wpAny_bind (wpAny_specialOf hT rt_hint.lookup ?_)
  dsimp only
  have hsp : splitId "reversed.__length_hint__" = some ("reversed", "__length_hint__") := by decide +kernel
  simp only [hsp]
  refine wpAny_bind (wpAny_isInstance (T := "reversed") (U := "reversed") (b := true) hT (by rw [isSubtype_type]; kernel_rfl) ?_)
  rw [if_neg (by decide)]
  rw [if_neg (by decide +kernel)]
  refine wpAny_bind (wpAny_rule ?_)
  refine wpAny_bind (wpAny_of_eq (rt_hint.bind _) ?_)
  refine wpAny_bind (wpAny_attempt (rt_hint_call hit hlen fun tk tk' => ?_))
  show wpAny _ A (asInt? (Value.int (items.size : Int) tk) >>= _) _ _ _
  have ea : asInt? (Value.int (items.size : Int) tk) = (pure (some (items.size : Int)) : Sem (Option Int)) := rfl
  rw [ea]
  refine wpAny_bind ?_
  refine wpAny_pure ?_
  dsimp only
  rw [sizeLine_eq] at hn
  have f1 : Builtin.List.listFitsIndex (items.size : Int) = true := by
    simp only [Builtin.List.listFitsIndex, Bool.and_eq_true, decide_eq_true_eq]
    omega
  have f2 : Builtin.List.listTooLong (items.size : Int).toNat = false := by
    simp only [Builtin.List.listTooLong, decide_eq_false_iff_not, sizeLine_eq]
    omega
  rw [f1, f2]
  rw [if_neg (by simp)]
  rw [if_neg (show ¬ ((items.size : Int) < 0) by omega)]
  rw [if_neg (by simp)]
  exact wpAny_pure (hQ _)
theorem walks_rt (hh : A.handled = none) (it t : Addr) (hne : t ≠ it) (items : Array Value) (hn : items.size ≤ sizeLine) :
    Walks P w A it [it, t] [it] items.size (fun i v => items[items.size - 1 - i]? = some v) (fun i h => i ≤ items.size ∧ IsRt h it t ((items.size : Int) - 1 - (i : Int)) ∧ IsTup h t items) where
  sub := fun b hb => by rw [List.mem_singleton.mp hb]; exact List.mem_cons_self
  frame := fun i h h' ⟨h0, h1, h2⟩ k => ⟨h0, h1.at fun o e => k it (by simp) o e, let ⟨o, e, r⟩ := h2; ⟨o, k t (by simp) o e, r⟩⟩
  item := fun i s Q E hi ⟨h0, h1, h2⟩ hQ => by
    have e : (items.size : Int) - 1 - (i : Int) = ((items.size - 1 - i : Nat) : Int) := by omega
    rw [e] at h1
    have hx : items[items.size - 1 - i]? = some items[items.size - 1 - i] := Array.getElem?_eq_getElem _
    refine RT.next_rt_item h1 h2 hx hn fun h' hr hs => hQ _ h' _ hx ⟨hi, ?_, h2.extBut hs.extBut hne⟩ fun b o hb he => hs.extBut b o (fun z => hb (by rw [z]; exact List.mem_cons_self)) he
    have e2 : (items.size : Int) - 1 - ((i + 1 : Nat) : Int) = ((items.size - 1 - i : Nat) : Int) - 1 := by omega
    rw [e2]
    exact hr
  done := fun s Q E ⟨h0, h1, h2⟩ hQ => by
    have e : (items.size : Int) - 1 - (items.size : Int) = -1 := by omega
    rw [e] at h1
    exact RT.next_rt_end hh h1 fun h' hs => hQ h' _ fun b o hb he => hs b o (fun z => hb (by rw [z]; exact List.mem_cons_self)) he
  self := fun i s Q E ⟨h0, h1, h2⟩ hQ => RT.iter_rt h1 hQ
/-- all items, from behind -/
theorem collect_rt {it t : Addr} {items : Array Value} {Q : List Value → Shared → Prop} (hh : A.handled = none) (hit : IsRt s.heap it t ((items.size : Int) - 1)) (ht : IsTup s.heap t items) (hne : t ≠ it) (hn : items.size ≤ sizeLine)
    (hQ : ∀ (h' : Heap) (tk : Nat) (acc : Array Value), (∀ b o, b ≠ it → s.heap.get? b = some o → h'.get? b = some o) → ItemsOf (fun i v => items[items.size - 1 - i]? = some v) acc items.size → Q acc.toList { s with heap := h', toks := tk }) :
    wpAny (model P w) A (collect (.ref it)) Q E s := by
  have W := (walks_rt (P := P) (w := w) (A := A.in1) hh it t hne items hn).toS
  have hSi : s.heap.objs.size ≠ it := by obtain ⟨o, e, _⟩ := id hit; exact Nat.ne_of_gt (Heap.lt_size e)
  have hSt : s.heap.objs.size ≠ t := by obtain ⟨o, e, _⟩ := id ht; exact Nat.ne_of_gt (Heap.lt_size e)
  have hSf : s.heap.objs.size ∉ [it, t] := by simp [hSi, hSt]
  unfold collect
  refine wpAny_bind (wpAny_runValue (codeAny_builtin F.entry_proto_collect ?_))
  rw [Around.under_plainId F.plain_proto_collect _]
  show wpAny _ A.in1 (newList [] >>= fun z => again (.builtin "list.__iadd__" ⟨[z, .ref it], []⟩)) _ _ s
  refine wpAny_bind (wpAny_newObj_type ?_)
  refine wpAny_pure ⟨plainId_quiet F.plain_list_iadd _, codeAny_builtin F.entry_list_iadd ?_⟩
  rw [Around.under_plainId F.plain_list_iadd _]
  generalize hp : s.heap.objs.size = p at hSi hSt hSf ⊢
  have k1 : ∀ b ob, s.heap.get? b = some ob → (s.heap.push { cls := .type "list", data := .seq ([] : List Value).toArray }).get? b = some ob := fun b ob e => Heap.get?_push_of_some _ e
  have hp1 : (s.heap.push { cls := .type "list", data := .seq ([] : List Value).toArray }).get? p = some { cls := .type "list", data := .seq ([] : List Value).toArray } := by rw [← hp]; exact Heap.get?_push_size _ rfl
  have hit1 : IsRt (s.heap.push { cls := .type "list", data := .seq ([] : List Value).toArray }) it t ((items.size : Int) - 1) := hit.at fun o e => k1 _ o e
  have ht1 : IsTup (s.heap.push { cls := .type "list", data := .seq ([] : List Value).toArray }) t items := ht.keeps k1
  have hfit : (items.size : Int) < 2 ^ 63 := by rw [sizeLine_eq] at hn; omega
  have e0 : (items.size : Int) - 1 - ((0 : Nat) : Int) = (items.size : Int) - 1 := by omega
  have fin : ∀ (R : Result → Shared → Prop) (h2 : Heap) (tk c : Nat), (∀ b ob, b ≠ p → (s.heap.push { cls := .type "list", data := .seq ([] : List Value).toArray }).get? b = some ob → h2.get? b = some ob) → h2.get? p = some { cls := .type "list", dict := none, data := .seq #[] c, slots := #[] } →
      (∀ (h' : Heap) (tk' : Nat) (acc : Array Value) (c' : Nat), h'.get? p = some { cls := .type "list", dict := none, data := .seq acc c', slots := #[] } → Q acc.toList { s with heap := h', toks := tk' } → R (.ok (.ret (.ref p))) { s with heap := h', toks := tk' }) →
      codeAny (model P w) A (.builtin "list.extend.loop" ⟨[.ref p, .ref it, .ref p], []⟩) R { s with heap := h2, toks := tk } := by
    intro R h2 tk c hk hp2 hR
    refine codeAny_extend_loopS W hn p hSf _ items.size 0 _ _ _ rfl (Nat.zero_le _) ⟨Nat.zero_le _, ?_, ?_⟩ hp2 (ItemsOf.nil _) fun s' acc' c' hm hS' hacc => ?_
    · rw [e0]
      exact hit1.at fun o e => hk it o (Ne.symm hSi) e
    · exact ht1.extBut hk (Ne.symm hSt)
    · have q := Moved.eq_with hm
      rw [q]
      refine hR s'.heap s'.toks acc' c' hS' (hQ s'.heap s'.toks acc' (fun b o hb e => ?_) hacc)
      have hbp : b ≠ p := by rw [← hp]; exact Nat.ne_of_lt (Heap.lt_size e)
      refine hm.heap b o (fun hmem => ?_) (hk b o hbp (k1 b o e))
      rcases List.mem_cons.mp hmem with z | z
      · exact hbp z
      · exact hb (List.mem_singleton.mp z)
  show wpAny _ A.in1 (Builtin.List.listExtendWith (.ref p) (.ref it) (.ref p)) _ _ _
  unfold Builtin.List.listExtendWith
  refine wpAny_bind (wpAny_typeOf (IsRt.typeIs (s := { s with heap := _ }) hit1) ?_)
  have x1 : Builtin.List.listSameRef (.ref p) (.ref it) = false := by simp [Builtin.List.listSameRef, hSi]
  have x2 : (Value.type "reversed" == Value.type "list") = false := by decide
  have x3 : (Value.type "reversed" == Value.type "tuple") = false := by decide
  simp only [x1, x2, x3, Bool.or_false, Bool.false_eq_true, if_false]
  refine wpAny_bind (RT.iter_rt (s := { s with heap := _ }) hit1 ?_)
  refine wpAny_bind (wpAny_holding ?_)
  refine rt_room (s := { s with heap := _ }) hit1 hn (fun A E Q k => len_tuple ht1 hfit k) fun tk => ?_
  have out : ∀ (h' : Heap) (tk' : Nat) (acc : Array Value) (c' : Nat), h'.get? p = some { cls := .type "list", dict := none, data := .seq acc c', slots := #[] } → Q acc.toList { s with heap := h', toks := tk' } →
      wpAny (model P w) A (load p >>= fun o => match o.data with
        | .seq xs _ => pure xs.toList
        | _ => unsupported "internal:collect") Q E { s with heap := h', toks := tk' } := fun h' tk' acc c' hp' q => by
    refine wpAny_bind (wpAny_load (s := { s with heap := h', toks := tk' }) hp' ?_)
    exact wpAny_pure q
  by_cases hz : items.size = 0
  · rw [if_neg (by rw [hz]; decide)]
    refine wpAny_pure ⟨plainId_quiet F.plain_extend_loop _, ?_⟩
    exact fin _ _ tk _ (fun b ob _ e => e) hp1 fun h' tk' acc c' hp' q => out h' tk' acc c' hp' q
  · have hz2 : ((items.size : Int) != 0) = true := by
      rw [bne_iff_ne]
      omega
    rw [if_pos (by rw [hz2]; rfl)]
    refine wpAny_bind (wpAny_rule ?_)
    refine wpAny_bind ?_
    show wpAny _ A.in1 (updateSeq p (·.push .none) >>= fun _ => updateSeq p (·.pop)) _ _ _
    refine wpAny_bind (wpAny_updateSeq hp1 rfl ?_)
    have hp2 := Heap.get?_update_self (Obj.mapSeq (·.push Value.none)) hp1 rfl
    refine wpAny_updateSeq (hz := by seq_fits) hp2 rfl ?_
    have hp3 := Heap.get?_update_self (Obj.mapSeq (·.pop)) hp2 rfl
    refine wpAny_pure ⟨plainId_quiet F.plain_extend_loop _, ?_⟩
    exact fin _ _ tk _ (fun b ob hb e => (Heap.get?_update_other _ _ (Ne.symm hb)).trans ((Heap.get?_update_other _ _ (Ne.symm hb)).trans e)) hp3 fun h' tk' acc c' hp' q => out h' tk' acc c' hp' q
theorem call_tuple_rt {a : Addr} {Q : Value → Shared → Prop} (hT : s.TypeIs (.ref a) "reversed")
    (h : wpAny (model P w) A.in1.in1 (collect (.ref a)) (fun l s' => l.length ≤ sizeLine ∧ Q (.ref s'.heap.objs.size) { s' with heap := s'.heap.push { cls := .type "tuple", data := .seq l.toArray } }) E s) : wpAny (model P w) A (call (.type "tuple") [.ref a]) Q E s := by
  have step : codeAny (model P w) A.in1 (.call (.builtin "tuple.__new__") ⟨[.type "tuple", .ref a], []⟩) (wants (fun obj s1 => s1.TypeIs obj "tuple" ∧ Q obj s1) E) s := by
    refine codeAny_of_tree ?_
    show wpAny _ A.in1.in1 (do checkBuiltinCall "tuple.__new__" ⟨[.type "tuple", .ref a], []⟩; again (.builtin "tuple.__new__" ⟨[.type "tuple", .ref a], []⟩)) _ _ s
    refine wpAny_bind (wpAny_of_eq (F.newCall_tuple_1 _) (wpAny_pure ⟨plainId_quiet F.plain_tuple_new _, codeAny_builtin F.entry_tuple_new ?_⟩))
    rw [Around.under_plainId F.plain_tuple_new _]
    have q1 := sub_tuple_self
    have q2 := init_tuple_lookup
    have q3 := madeHere_tuple
    wp_walk using wpAny_typeOf hT, wpAny_mono h
    · intro l s' hl
      obtain ⟨hl1, hl2⟩ := hl
      show wpAny _ _ (Builtin.Tuple.tupleExact l.toArray >>= fun v => ret v) _ _ _
      unfold Builtin.Tuple.tupleExact
      refine wpAny_bind (wpAny_newObj_type ?_ (by show l.toArray.size ≤ sizeLine; rw [List.size_toArray]; exact hl1))
      exact wpAny_pure ⟨⟨_, Heap.get?_push_size _ rfl, rfl⟩, hl2⟩
    · intro e s' he
      exact he
  refine callType_codes (Q₁ := fun obj s1 => s1.TypeIs obj "tuple" ∧ Q obj s1) F.called_tuple (F.typeCall_tuple_1 _) F.entry_object_init step fun obj s1 h1 => ?_
  exact ⟨h1.1, F.args_object_init_2 obj _, object_init_meets F.called_tuple.init.lookup F.called_tuple.made (by decide) P w A.in1 _ s1 ⟨h1.1, rfl, h1.2⟩⟩
end
section
variable {X : Cx} {tabs : List Addr} {cf : CF} {e : Expr} {e' : E} {pos p p2 pos2 : Pos}
def tRevT (K : PySem.W.Frag) (ta : TA) : TE := fun σ H Q => ta σ H fun vs H1 => ∃ (a : Addr) (xs : List V), vs = [.ref a] ∧ SqT K H1 a xs ∧ ∀ p us, H1 p = none → Q (.ref p) (upd H1 p (.frz (tupO us) (.tup xs.reverse)))
theorem pe_revT {ta : TA} (hc : X.calm = true) (hg : Gl X "tuple") (hm : X.mg "tuple" = none) (hg2 : Gl X "reversed") (hm2 : X.mg "reversed" = none) (ha : PA X [e] ta)
    (hs : starEach [e] X.env = [(false, eval e X.env)] := by rfl)
    (hs2 : starEach [.Call (.Name "reversed" p2) [e] [] pos2] X.env = (false, eval (.Call (.Name "reversed" p2) [e] [] pos2) X.env) :: starEach [] X.env := by rfl) :
    PE X (.Call (.Name "tuple" p) [.Call (.Name "reversed" p2) [e] [] pos2] [] pos) (tRevT X.K ta) := by
  refine ⟨fun pins s σ H Q I h => ?_⟩
  refine Call_ (ld_blt I hg hm boot_tuple (PyProof.Rows.callWith_type1 (args_cons (Call_ (ld_blt I hg2 hm2 PyProof.Rows.boot_reversed (PyProof.Rows.callWith_type1 (thn (ha.run pos2 pins s σ H _ I h) fun us s1 ⟨vs, H1, I1, r1, q1⟩ => ?_) hs rfl))) hs2) hs2 rfl))
  obtain ⟨a, xs, rfl, hq, q⟩ := q1
  rw [Vals.ref1 r1]
  obtain ⟨its, rv, p', hz⟩ := I1.tuple hq
  have hn : its.toArray.size ≤ sizeLine := by rw [List.size_toArray, ← rv.length]; exact hz
  have hfit : (its.toArray.size : Int) < 2 ^ 63 := by rw [sizeLine_eq] at hn; omega
  refine RT.call_reversed_tup p' (fun A E Q k => len_tuple p' hfit k) (args_nil ?_)
  have k0 : ∀ b o, s1.heap.get? b = some o → (s1.heap.push (RT.rtObj a ((its.toArray.size : Int) - 1))).get? b = some o := fun b o e => Heap.get?_push_of_some _ e
  have I2 : Inv X pins σ H1 { s1 with heap := s1.heap.push (RT.rtObj a ((its.toArray.size : Int) - 1)), toks := s1.toks + 1 + 1 } := I1.kept (t' := s1.toks + 1 + 1) k0
  obtain ⟨f0, f1, f2, f3, f4, f5⟩ := I1.fpOk (H' := H1) (b := s1.heap.objs.size) (Nat.le_refl _) (I1.hok.fresh (Nat.le_refl _))
  have hne : a ≠ s1.heap.objs.size := by obtain ⟨o, e, _⟩ := id p'; exact Nat.ne_of_lt (Heap.lt_size e)
  have hrt : IsRt (s1.heap.push (RT.rtObj a ((its.toArray.size : Int) - 1))) s1.heap.objs.size a ((its.toArray.size : Int) - 1) := ⟨_, Heap.get?_push_size _ rfl, rfl, rfl⟩
  refine call_tuple_rt (s := { s1 with heap := s1.heap.push (RT.rtObj a ((its.toArray.size : Int) - 1)), toks := s1.toks + 1 + 1 }) (IsRt.typeIs (s := { s1 with heap := _, toks := _ }) hrt) ?_
  refine collect_rt (s := { s1 with heap := s1.heap.push (RT.rtObj a ((its.toArray.size : Int) - 1)), toks := s1.toks + 1 + 1 }) (I1.ok.hd hc) hrt (p'.keeps k0) hne hn fun h' tk acc hk hi => ?_
  have I3 : Inv X pins σ H1 { s1 with heap := h', toks := tk } := I2.turned (t' := tk) (fun b o hb e => hk b o hb e) f0 f1 f3 f4 f5
  have hal : acc.toList.length ≤ sizeLine := by rw [Array.length_toList, hi.1]; exact hn
  refine ⟨hal, .ref h'.objs.size, _, layT (tk := tk) (us := acc.toList) I3 (fun c o e => Heap.get?_push_of_some _ e) (by rw [List.length_reverse]; exact hz) (RT.vals_rev rv hi) (Nat.le_refl _) (Heap.get?_push_size _ rfl), rfl, q _ acc.toList (I3.hok.fresh (Nat.le_refl _))⟩
theorem RepAll.rev {k : Kx} {Z : Addr → Prop} {H : Hp} : ∀ (ds : List D) {vs : List V}, RepAll k Z H ds vs → RepAll k Z H ds.reverse vs.reverse
  | [], vs, h => by simp only [RepAll] at h; rw [h]; rfl
  | d :: ds, vs, h => by
    simp only [RepAll] at h
    obtain ⟨v, ws, rfl, h1, h2⟩ := h
    rw [List.reverse_cons, List.reverse_cons]
    refine RepAll.append _ _ (RepAll.rev ds h2) ?_
    simp only [RepAll]
    exact ⟨v, [], rfl, h1, rfl⟩
theorem e_revT (hm : X.mg "tuple" = none) (hm2 : X.mg "reversed" = none) (hc : X.calm = true) (h : SM X tabs cf [e] (.cons e' .nil)) (hg : Gl X "tuple" := by rfl) (hg2 : Gl X "reversed" := by rfl)
    (hs : starEach [e] X.env = [(false, eval e X.env)] := by rfl)
    (hs2 : starEach [.Call (.Name "reversed" p2) [e] [] pos2] X.env = (false, eval (.Call (.Name "reversed" p2) [e] [] pos2) X.env) :: starEach [] X.env := by rfl) :
    EM X tabs cf (.Call (.Name "tuple" p) [.Call (.Name "reversed" p2) [e] [] pos2] [] pos) (.col .tuple (.bi .rev (.cons e' .nil))) := by
  refine ⟨fun vw ok => Sw.PE.weak (pe_revT hc hg hm hg2 hm2 (h.run ok) hs hs2) fun σ H Q h => ?_⟩
  obtain ⟨Z, env, t, env', st, he, q⟩ := h
  rw [ev_col] at he
  obtain ⟨xs, env1, h1, he⟩ := Res.bind_ok he
  obtain ⟨hf, rfl⟩ := Res.of_ok he
  have hf : (if xs.length ≤ SL then some (T.im (.tup xs)) else none) = some t := hf
  split at hf
  · cases hf
    rw [evi_walk rfl] at h1
    obtain ⟨ds, env2, h2, h1⟩ := Res.bind_ok h1
    obtain ⟨hr, rfl⟩ := Res.of_ok h1
    refine ⟨Z, env, ds, _, st, h2, fun vs Z1 H1 g1 r1 => ?_⟩
    have hr : revOf ds = some xs := hr
    unfold revOf at hr
    split at hr
    · cases hr
      simp only [RepAll] at r1
      obtain ⟨v, _, rfl, r1, rfl⟩ := r1
      simp only [Rep] at r1
      obtain ⟨p1, us, rfl, e1, r1⟩ := r1
      refine ⟨p1, us, rfl, e1.sq, fun p0 os hp0 => q _ Z1 _ (g1.new hp0) (XRep.im ?_)⟩
      simp only [Rep]
      exact ⟨p0, _, rfl, ⟨_, upd_same, rfl⟩, RepAll.keep (Keep.new hp0) (fun _ z => z) _ (RepAll.rev _ r1)⟩
    · cases hr
  · cases hf
end
end Sw

set_option maxHeartbeats 200000
namespace SwK
open PySem PySem.Spec PyProof.Rows L2 GenW RZ Sw
def topS (i : Nat) : Stmt := PySem.Challenge.pw_switchrows_k12_nets_about.main.body.getD i (.Pass ⟨0, 0, 0, 0⟩)
abbrev s_about : Stmt := topS 1
abbrev N_about : List Str := ["net", "many", "stages"]
theorem sc_about : FnScope N_about ["net"] (defScope s_about) := ⟨rfl, rfl, rfl, by decide +kernel, rfl, by decide +kernel, by decide +kernel⟩
abbrev s_about_setting : Stmt := topS 2
abbrev N_about_setting : List Str := ["setting"]
theorem sc_about_setting : FnScope N_about_setting ["setting"] (defScope s_about_setting) := ⟨rfl, rfl, rfl, by decide +kernel, rfl, by decide +kernel, by decide +kernel⟩
abbrev s_l_cell_at : Stmt := topS 4
abbrev N_l_cell_at : List Str := ["_law_script", "_law_k"]
theorem sc_l_cell_at : FnScope N_l_cell_at ["_law_script", "_law_k"] (defScope s_l_cell_at) := ⟨rfl, rfl, rfl, by decide +kernel, rfl, by decide +kernel, by decide +kernel⟩
abbrev s_l_begin : Stmt := topS 5
abbrev N_l_begin : List Str := ["_law_cell", "_law_seed"]
theorem sc_l_begin : FnScope N_l_begin ["_law_cell"] (defScope s_l_begin) := ⟨rfl, rfl, rfl, by decide +kernel, rfl, by decide +kernel, by decide +kernel⟩
abbrev s_l_draw : Stmt := topS 6
abbrev N_l_draw : List Str := ["_law_state", "_law_many", "_law_number", "_law_got"]
theorem sc_l_draw : FnScope N_l_draw ["_law_state", "_law_many"] (defScope s_l_draw) := ⟨rfl, rfl, rfl, by decide +kernel, rfl, by decide +kernel, by decide +kernel⟩
abbrev s_l_stage : Stmt := topS 7
abbrev N_l_stage : List Str := ["_law_state", "_law_many", "_law_wires", "_law_found", "_law_most", "_law_k", "_law_a", "_law_b"]
theorem sc_l_stage : FnScope N_l_stage ["_law_state", "_law_many"] (defScope s_l_stage) := ⟨rfl, rfl, rfl, by decide +kernel, rfl, by decide +kernel, by decide +kernel⟩
abbrev s_l_net : Stmt := topS 8
abbrev N_l_net : List Str := ["_law_state", "_law_great", "_law_long", "_law_many", "_law_stages", "_law_k"]
theorem sc_l_net : FnScope N_l_net ["_law_state", "_law_great", "_law_long"] (defScope s_l_net) := ⟨rfl, rfl, rfl, by decide +kernel, rfl, by decide +kernel, by decide +kernel⟩
abbrev s_l_setting : Stmt := topS 9
abbrev N_l_setting : List Str := ["_law_state", "_law_net_here", "_law_found", "_law_stage_here", "_law_switch"]
theorem sc_l_setting : FnScope N_l_setting ["_law_state", "_law_net_here"] (defScope s_l_setting) := ⟨rfl, rfl, rfl, by decide +kernel, rfl, by decide +kernel, by decide +kernel⟩
abbrev s_l_across : Stmt := topS 10
abbrev N_l_across : List Str := ["_law_stage_here", "_law_ways", "_law_wire", "_law_switch", "_law_way_here"]
theorem sc_l_across : FnScope N_l_across ["_law_stage_here", "_law_ways", "_law_wire"] (defScope s_l_across) := ⟨rfl, rfl, rfl, by decide +kernel, rfl, by decide +kernel, by decide +kernel⟩
abbrev s_l_way : Stmt := topS 11
abbrev N_l_way : List Str := ["_law_net_here", "_law_setting_here", "_law_wire", "_law_found", "_law_stage_here", "_law_ways"]
theorem sc_l_way : FnScope N_l_way ["_law_net_here", "_law_setting_here", "_law_wire"] (defScope s_l_way) := ⟨rfl, rfl, rfl, by decide +kernel, rfl, by decide +kernel, by decide +kernel⟩
abbrev s_l_right : Stmt := topS 12
abbrev N_l_right : List Str := ["_law_net_here", "_law_setting_here", "_law_found", "_law_ways", "_law_wire", "_law_here"]
theorem sc_l_right : FnScope N_l_right ["_law_net_here", "_law_setting_here"] (defScope s_l_right) := ⟨rfl, rfl, rfl, by decide +kernel, rfl, by decide +kernel, by decide +kernel⟩
abbrev s_law : Stmt := topS 13
abbrev N_law : List Str := ["_law_script", "_law_k", "_law_state", "_law_net_here"]
theorem sc_law : FnScope N_law ["_law_script"] (defScope s_law) := ⟨rfl, rfl, rfl, by decide +kernel, rfl, by decide +kernel, by decide +kernel⟩
/-- about(net); slots: 0 net, 1 many, 2 stages -/
def f_about : Fn := ⟨1, 3,
    (S.seq (S.asg (G.t (G.cons (G.n 1) (G.cons (G.n 2) G.nil))) (E.v 0))
    (S.ret (E.tup (E.cons (E.v 1) (E.cons (E.rv (E.v 2)) E.nil)))))⟩
/-- about_setting(setting); slots: 0 setting -/
def f_about_setting : Fn := ⟨1, 1,
    (S.ret (E.rv (E.v 0)))⟩
/-- _law_cell_at(_law_script, _law_k); slots: 0 _law_script, 1 _law_k -/
def f_l_cell_at : Fn := ⟨2, 2,
    (S.seq (S.ite (E.cmp COp.lt (E.v 1) (E.bi BI.len (E.cons (E.v 0) E.nil))) (S.ret (E.ix (E.v 0) (E.v 1))) S.skip)
    (S.ret (E.c (D.int (0)))))⟩
/-- _law_begin(_law_cell); slots: 0 _law_cell, 1 _law_seed -/
def f_l_begin : Fn := ⟨1, 2,
    (S.seq (S.asg (G.n 1) (E.op BOp.add (E.op BOp.add (E.op BOp.mod (E.v 0) (E.c (D.int (2147483647)))) (E.op BOp.mod (E.op BOp.fdiv (E.v 0) (E.c (D.int (2147483647)))) (E.c (D.int (1000003))))) (E.c (D.int (3)))))
    (S.seq (S.ite (E.cmp COp.lt (E.v 0) (E.op BOp.pow (E.c (D.int (10))) (E.c (D.int (18))))) (S.ret (E.lst (E.cons (E.c (D.int (0))) (E.cons (E.v 1) E.nil)))) S.skip)
    (S.ret (E.lst (E.cons (E.v 0) (E.cons (E.v 1) E.nil))))))⟩
/-- _law_draw(_law_state, _law_many); slots: 0 _law_state, 1 _law_many, 2 _law_number, 3 _law_got -/
def f_l_draw : Fn := ⟨2, 4,
    (S.seq (S.ite (E.cmp COp.gt (E.ix (E.v 0) (E.c (D.int (0)))) (E.c (D.int (0)))) (S.seq (S.asg (G.n 3) (E.op BOp.mod (E.ix (E.v 0) (E.c (D.int (0)))) (E.v 1)))
    (S.seq (S.six 0 (E.c (D.int (0))) (E.op BOp.fdiv (E.ix (E.v 0) (E.c (D.int (0)))) (E.v 1)))
    (S.ret (E.v 3)))) S.skip)
    (S.seq (S.asg (G.n 2) (E.op BOp.mod (E.op BOp.add (E.op BOp.mul (E.ix (E.v 0) (E.c (D.int (1)))) (E.c (D.int (48271)))) (E.c (D.int (11)))) (E.c (D.int (2147483629)))))
    (S.seq (S.six 0 (E.c (D.int (1))) (E.op BOp.mod (E.op BOp.add (E.op BOp.mul (E.v 2) (E.c (D.int (69621)))) (E.c (D.int (7)))) (E.c (D.int (2147483587)))))
    (S.ret (E.op BOp.mod (E.op BOp.fdiv (E.op BOp.mod (E.op BOp.add (E.op BOp.mul (E.ix (E.v 0) (E.c (D.int (1)))) (E.c (D.int (16807)))) (E.c (D.int (3)))) (E.c (D.int (2147483579)))) (E.c (D.int (8)))) (E.v 1))))))⟩
/-- _law_stage(_law_state, _law_many); slots: 0 _law_state, 1 _law_many, 2 _law_wires, 3 _law_found, 4 _law_most, 5 _law_k, 6 _law_a, 7 _law_b -/
def f_l_stage : Fn := ⟨2, 8,
    (S.seq (S.asg (G.n 2) (E.col LK.list (E.bi BI.range (E.cons (E.v 1) E.nil))))
    (S.seq (S.asg (G.n 3) (E.lst E.nil))
    (S.seq (S.asg (G.n 4) (E.ix (E.lst (E.cons (E.c (D.int (0))) (E.cons (E.c (D.int (1))) (E.cons (E.c (D.int (2))) (E.cons (E.op BOp.fdiv (E.v 1) (E.c (D.int (2)))) (E.cons (E.op BOp.fdiv (E.v 1) (E.c (D.int (2)))) E.nil)))))) (E.call 4 (E.cons (E.v 0) (E.cons (E.c (D.int (5))) E.nil)))))
    (S.seq (S.for (G.n 5) (E.bi BI.range (E.cons (E.bi BI.min (E.cons (E.v 4) (E.cons (E.op BOp.fdiv (E.v 1) (E.c (D.int (2)))) E.nil))) E.nil)) (S.seq (S.asg (G.n 6) (E.mt MT.pop (E.v 2) (E.cons (E.call 4 (E.cons (E.v 0) (E.cons (E.bi BI.len (E.cons (E.v 2) E.nil)) E.nil))) E.nil)))
    (S.seq (S.asg (G.n 7) (E.mt MT.pop (E.v 2) (E.cons (E.call 4 (E.cons (E.v 0) (E.cons (E.bi BI.len (E.cons (E.v 2) E.nil)) E.nil))) E.nil)))
    (S.ex (E.mt MT.append (E.v 3) (E.cons (E.tup (E.cons (E.bi BI.min (E.cons (E.v 6) (E.cons (E.v 7) E.nil))) (E.cons (E.bi BI.max (E.cons (E.v 6) (E.cons (E.v 7) E.nil))) E.nil))) E.nil))))))
    (S.ret (E.bi BI.tuple (E.cons (E.bi BI.sorted (E.cons (E.v 3) E.nil)) E.nil)))))))⟩
/-- _law_net(_law_state, _law_great, _law_long); slots: 0 _law_state, 1 _law_great, 2 _law_long, 3 _law_many, 4 _law_stages, 5 _law_k -/
def f_l_net : Fn := ⟨3, 6,
    (S.seq (S.asg (G.n 3) (E.ix (E.lst (E.cons (E.c (D.int (2))) (E.cons (E.c (D.int (3))) (E.cons (E.c (D.int (4))) (E.cons (E.c (D.int (5))) (E.cons (E.c (D.int (8))) (E.cons (E.c (D.int (1))) E.nil))))))) (E.call 4 (E.cons (E.v 0) (E.cons (E.c (D.int (6))) E.nil)))))
    (S.seq (S.asg (G.n 4) (E.call 4 (E.cons (E.v 0) (E.cons (E.c (D.int (6))) E.nil))))
    (S.seq (S.ite (E.cmp COp.eq (E.call 4 (E.cons (E.v 0) (E.cons (E.c (D.int (8))) E.nil))) (E.c (D.int (5)))) (S.asg (G.n 3) (E.v 1)) S.skip)
    (S.seq (S.ite (E.cmp COp.eq (E.call 4 (E.cons (E.v 0) (E.cons (E.c (D.int (8))) E.nil))) (E.c (D.int (5)))) (S.asg (G.n 4) (E.v 2)) S.skip)
    (S.ret (E.tup (E.cons (E.v 3) (E.cons (E.bi BI.tuple (E.cons (E.lc LK.list [5] (G.n 5) (E.bi BI.range (E.cons (E.v 4) E.nil)) E.nil (E.call 5 (E.cons (E.v 0) (E.cons (E.v 3) E.nil)))) E.nil)) E.nil))))))))⟩
/-- _law_setting(_law_state, _law_net_here); slots: 0 _law_state, 1 _law_net_here, 2 _law_found, 3 _law_stage_here, 4 _law_switch -/
def f_l_setting : Fn := ⟨2, 5,
    (S.seq (S.asg (G.n 2) (E.lst E.nil))
    (S.seq (S.for (G.n 3) (E.ix (E.v 1) (E.c (D.int (1)))) (S.ex (E.mt MT.append (E.v 2) (E.cons (E.bi BI.tuple (E.cons (E.lc LK.list [4] (G.n 4) (E.v 3) E.nil (E.call 4 (E.cons (E.v 0) (E.cons (E.c (D.int (2))) E.nil)))) E.nil)) E.nil))))
    (S.ret (E.bi BI.tuple (E.cons (E.v 2) E.nil)))))⟩
/-- _law_across(_law_stage_here, _law_ways, _law_wire); slots: 0 _law_stage_here, 1 _law_ways, 2 _law_wire, 3 _law_switch, 4 _law_way_here -/
def f_l_across : Fn := ⟨3, 5,
    (S.seq (S.for (G.t (G.cons (G.n 3) (G.cons (G.n 4) G.nil))) (E.bi BI.zip (E.cons (E.v 0) (E.cons (E.v 1) E.nil))) (S.ite (E.an (E.cmp COp.eq (E.v 4) (E.c (D.int (1)))) (E.cmp COp.inn (E.v 2) (E.v 3))) (S.ret (E.op BOp.sub (E.bi BI.sum (E.cons (E.v 3) E.nil)) (E.v 2))) S.skip))
    (S.ret (E.v 2)))⟩
/-- _law_way(_law_net_here, _law_setting_here, _law_wire); slots: 0 _law_net_here, 1 _law_setting_here, 2 _law_wire, 3 _law_found, 4 _law_stage_here, 5 _law_ways -/
def f_l_way : Fn := ⟨3, 6,
    (S.seq (S.asg (G.n 3) (E.lst (E.cons (E.v 2) E.nil)))
    (S.seq (S.for (G.t (G.cons (G.n 4) (G.cons (G.n 5) G.nil))) (E.bi BI.zip (E.cons (E.ix (E.v 0) (E.c (D.int (1)))) (E.cons (E.v 1) E.nil))) (S.ex (E.mt MT.append (E.v 3) (E.cons (E.call 8 (E.cons (E.v 4) (E.cons (E.v 5) (E.cons (E.ix (E.v 3) (E.neg (E.c (D.int (1))))) E.nil)))) E.nil))))
    (S.ret (E.bi BI.tuple (E.cons (E.v 3) E.nil)))))⟩
/-- _law_right(_law_net_here, _law_setting_here); slots: 0 _law_net_here, 1 _law_setting_here, 2 _law_found, 3 _law_ways, 4 _law_wire, 5 _law_here -/
def f_l_right : Fn := ⟨2, 6,
    (S.seq (S.asg (G.n 2) (E.call 0 (E.cons (E.v 0) E.nil)))
    (S.seq (S.asg (G.n 3) (E.call 1 (E.cons (E.v 1) E.nil)))
    (S.seq (S.ite (E.oo (E.cmp COp.ne (E.bi BI.repr (E.cons (E.v 2) E.nil)) (E.bi BI.repr (E.cons (E.tup (E.cons (E.ix (E.v 0) (E.c (D.int (0)))) (E.cons (E.col LK.tuple (E.bi BI.rev (E.cons (E.ix (E.v 0) (E.c (D.int (1)))) E.nil))) E.nil))) E.nil))) (E.cmp COp.ne (E.bi BI.repr (E.cons (E.v 3) E.nil)) (E.bi BI.repr (E.cons (E.col LK.tuple (E.bi BI.rev (E.cons (E.v 1) E.nil))) E.nil)))) (S.ret (E.c (D.bl false))) S.skip)
    (S.seq (S.for (G.n 4) (E.bi BI.range (E.cons (E.ix (E.v 0) (E.c (D.int (0)))) E.nil)) (S.seq (S.asg (G.n 5) (E.call 9 (E.cons (E.v 0) (E.cons (E.v 1) (E.cons (E.v 4) E.nil)))))
    (S.ite (E.cmp COp.ne (E.call 9 (E.cons (E.v 2) (E.cons (E.v 3) (E.cons (E.ix (E.v 5) (E.neg (E.c (D.int (1))))) E.nil)))) (E.rv (E.v 5))) (S.ret (E.c (D.bl false))) S.skip)))
    (S.ret (E.an (E.cmp COp.eq (E.bi BI.repr (E.cons (E.call 0 (E.cons (E.v 2) E.nil)) E.nil)) (E.bi BI.repr (E.cons (E.v 0) E.nil))) (E.cmp COp.eq (E.bi BI.repr (E.cons (E.call 1 (E.cons (E.v 3) E.nil)) E.nil)) (E.bi BI.repr (E.cons (E.v 1) E.nil)))))))))⟩
/-- law(_law_script); slots: 0 _law_script, 1 _law_k, 2 _law_state, 3 _law_net_here -/
def f_law : Fn := ⟨1, 4,
    (S.seq (S.for (G.n 1) (E.bi BI.range (E.cons (E.bi BI.max (E.cons (E.c (D.int (1))) (E.cons (E.bi BI.min (E.cons (E.c (D.int (4))) (E.cons (E.bi BI.len (E.cons (E.v 0) E.nil)) E.nil))) E.nil))) E.nil)) (S.seq (S.asg (G.n 2) (E.call 3 (E.cons (E.call 2 (E.cons (E.v 0) (E.cons (E.v 1) E.nil))) E.nil)))
    (S.seq (S.asg (G.n 3) (E.call 6 (E.cons (E.v 2) (E.cons (E.c (D.int (32))) (E.cons (E.c (D.int (20))) E.nil)))))
    (S.ite (E.no (E.call 10 (E.cons (E.v 3) (E.cons (E.call 7 (E.cons (E.v 2) (E.cons (E.v 3) E.nil))) E.nil)))) (S.ret (E.c (D.bl false))) S.skip))))
    (S.ret (E.an (E.call 10 (E.cons (E.tup (E.cons (E.c (D.int (1))) (E.cons (E.tup E.nil) E.nil))) (E.cons (E.tup E.nil) E.nil))) (E.call 10 (E.cons (E.tup (E.cons (E.c (D.int (2))) (E.cons (E.tup (E.cons (E.tup E.nil) (E.cons (E.tup (E.cons (E.tup (E.cons (E.c (D.int (0))) (E.cons (E.c (D.int (1))) E.nil))) E.nil)) E.nil))) E.nil))) (E.cons (E.tup (E.cons (E.tup E.nil) (E.cons (E.tup (E.cons (E.c (D.int (1))) E.nil)) E.nil))) E.nil))))))⟩
def prog : Prog := [f_about, f_about_setting, f_l_cell_at, f_l_begin, f_l_draw, f_l_stage, f_l_net, f_l_setting, f_l_across, f_l_way, f_l_right, f_law]
structure Mg (mg : Str → Option Value) : Prop where
  b_len : mg "len" = none
  b_list : mg "list" = none
  b_max : mg "max" = none
  b_min : mg "min" = none
  b_range : mg "range" = none
  b_repr : mg "repr" = none
  b_reversed : mg "reversed" = none
  b_sorted : mg "sorted" = none
  b_sum : mg "sum" = none
  b_tuple : mg "tuple" = none
  b_zip : mg "zip" = none
structure All (P : Program) (w : World) (K : PySem.W.Frag) (mg : Str → Option Value) (base : Heap) (tabs : List Addr) (n : Nat) : Prop where
  c0 : Fx true prog P w K mg base tabs n "about" ["net"] 0
  c1 : Fx true prog P w K mg base tabs n "about_setting" ["setting"] 1
  c2 : Fx true prog P w K mg base tabs n "_law_cell_at" ["_law_script", "_law_k"] 2
  c3 : Fx true prog P w K mg base tabs n "_law_begin" ["_law_cell"] 3
  c4 : Fx true prog P w K mg base tabs n "_law_draw" ["_law_state", "_law_many"] 4
  c5 : Fx true prog P w K mg base tabs n "_law_stage" ["_law_state", "_law_many"] 5
  c6 : Fx true prog P w K mg base tabs n "_law_net" ["_law_state", "_law_great", "_law_long"] 6
  c7 : Fx true prog P w K mg base tabs n "_law_setting" ["_law_state", "_law_net_here"] 7
  c8 : Fx true prog P w K mg base tabs n "_law_across" ["_law_stage_here", "_law_ways", "_law_wire"] 8
  c9 : Fx true prog P w K mg base tabs n "_law_way" ["_law_net_here", "_law_setting_here", "_law_wire"] 9
  c10 : Fx true prog P w K mg base tabs n "_law_right" ["_law_net_here", "_law_setting_here"] 10
  c11 : Fx true prog P w K mg base tabs n "law" ["_law_script"] 11
theorem d_about {P : Program} {w : World} {K : PySem.W.Frag} {mg : Str → Option Value} {base : Heap} {tabs : List Addr} {n : Nat} (AL : All P w K mg base tabs n) (M : Mg mg) {cdv : Value} {f : Addr} (A : Around) (outer : List Env) (s : Shared) (H : Hp) (E : XK)
    (hr : Room (2 * n + 3) (cxOf CX0 P w K mg base N_about "about" (defScope s_about) f cdv A outer s H E).A) (hgd : GdOk true (cxOf CX0 P w K mg base N_about "about" (defScope s_about) f cdv A outer s H E).A) : BX (cxOf CX0 P w K mg base N_about "about" (defScope s_about) f cdv A outer s H E) tabs (callD prog n) (defBody s_about) f_about.body := by
  have hp : PassesOwn (model P w) (cxOf CX0 P w K mg base N_about "about" (defScope s_about) f cdv A outer s H E).A (cxOf CX0 P w K mg base N_about "about" (defScope s_about) f cdv A outer s H E).env (cxOf CX0 P w K mg base N_about "about" (defScope s_about) f cdv A outer s H E).xe := passes_of (X := cxOf CX0 P w K mg base N_about "about" (defScope s_about) f cdv A outer s H E) (K := fun e s2 => CX0 outer H s E e s2) (E₁ := fun e s2 => CX0 outer H s E e s2) rfl
  exact (bx_cons (x_asg (g_t (n := 0) rfl (gs_cons (g_n 1 sc_about.nd) (gs_cons (g_n 2 sc_about.nd) gms_nil))) (e_v 0))
    (bx_one (x_ret (em_tup (s_cons (e_v 1) (s_cons (em_rv (e_v 2)) sm_nil))))))
theorem d_about_setting {P : Program} {w : World} {K : PySem.W.Frag} {mg : Str → Option Value} {base : Heap} {tabs : List Addr} {n : Nat} (AL : All P w K mg base tabs n) (M : Mg mg) {cdv : Value} {f : Addr} (A : Around) (outer : List Env) (s : Shared) (H : Hp) (E : XK)
    (hr : Room (2 * n + 3) (cxOf CX0 P w K mg base N_about_setting "about_setting" (defScope s_about_setting) f cdv A outer s H E).A) (hgd : GdOk true (cxOf CX0 P w K mg base N_about_setting "about_setting" (defScope s_about_setting) f cdv A outer s H E).A) : BX (cxOf CX0 P w K mg base N_about_setting "about_setting" (defScope s_about_setting) f cdv A outer s H E) tabs (callD prog n) (defBody s_about_setting) f_about_setting.body := by
  have hp : PassesOwn (model P w) (cxOf CX0 P w K mg base N_about_setting "about_setting" (defScope s_about_setting) f cdv A outer s H E).A (cxOf CX0 P w K mg base N_about_setting "about_setting" (defScope s_about_setting) f cdv A outer s H E).env (cxOf CX0 P w K mg base N_about_setting "about_setting" (defScope s_about_setting) f cdv A outer s H E).xe := passes_of (X := cxOf CX0 P w K mg base N_about_setting "about_setting" (defScope s_about_setting) f cdv A outer s H E) (K := fun e s2 => CX0 outer H s E e s2) (E₁ := fun e s2 => CX0 outer H s E e s2) rfl
  exact (bx_one (x_ret (em_rv (e_v 0))))
theorem d_l_cell_at {P : Program} {w : World} {K : PySem.W.Frag} {mg : Str → Option Value} {base : Heap} {tabs : List Addr} {n : Nat} (AL : All P w K mg base tabs n) (M : Mg mg) {cdv : Value} {f : Addr} (A : Around) (outer : List Env) (s : Shared) (H : Hp) (E : XK)
    (hr : Room (2 * n + 3) (cxOf CX0 P w K mg base N_l_cell_at "_law_cell_at" (defScope s_l_cell_at) f cdv A outer s H E).A) (hgd : GdOk true (cxOf CX0 P w K mg base N_l_cell_at "_law_cell_at" (defScope s_l_cell_at) f cdv A outer s H E).A) : BX (cxOf CX0 P w K mg base N_l_cell_at "_law_cell_at" (defScope s_l_cell_at) f cdv A outer s H E) tabs (callD prog n) (defBody s_l_cell_at) f_l_cell_at.body := by
  have hp : PassesOwn (model P w) (cxOf CX0 P w K mg base N_l_cell_at "_law_cell_at" (defScope s_l_cell_at) f cdv A outer s H E).A (cxOf CX0 P w K mg base N_l_cell_at "_law_cell_at" (defScope s_l_cell_at) f cdv A outer s H E).env (cxOf CX0 P w K mg base N_l_cell_at "_law_cell_at" (defScope s_l_cell_at) f cdv A outer s H E).xe := passes_of (X := cxOf CX0 P w K mg base N_l_cell_at "_law_cell_at" (defScope s_l_cell_at) f cdv A outer s H E) (K := fun e s2 => CX0 outer H s E e s2) (E₁ := fun e s2 => CX0 outer H s E e s2) rfl
  exact (bx_cons (sx_ite (t_lt (e_v 1) (e_len M.b_len (l_cons (e_v 0) lm_nil))) (bx_one (x_ret (e_ix (e_v 0) (e_v 1)))) bx_nil)
    (bx_one (x_ret em_int)))
theorem d_l_begin {P : Program} {w : World} {K : PySem.W.Frag} {mg : Str → Option Value} {base : Heap} {tabs : List Addr} {n : Nat} (AL : All P w K mg base tabs n) (M : Mg mg) {cdv : Value} {f : Addr} (A : Around) (outer : List Env) (s : Shared) (H : Hp) (E : XK)
    (hr : Room (2 * n + 3) (cxOf CX0 P w K mg base N_l_begin "_law_begin" (defScope s_l_begin) f cdv A outer s H E).A) (hgd : GdOk true (cxOf CX0 P w K mg base N_l_begin "_law_begin" (defScope s_l_begin) f cdv A outer s H E).A) : BX (cxOf CX0 P w K mg base N_l_begin "_law_begin" (defScope s_l_begin) f cdv A outer s H E) tabs (callD prog n) (defBody s_l_begin) f_l_begin.body := by
  have hp : PassesOwn (model P w) (cxOf CX0 P w K mg base N_l_begin "_law_begin" (defScope s_l_begin) f cdv A outer s H E).A (cxOf CX0 P w K mg base N_l_begin "_law_begin" (defScope s_l_begin) f cdv A outer s H E).env (cxOf CX0 P w K mg base N_l_begin "_law_begin" (defScope s_l_begin) f cdv A outer s H E).xe := passes_of (X := cxOf CX0 P w K mg base N_l_begin "_law_begin" (defScope s_l_begin) f cdv A outer s H E) (K := fun e s2 => CX0 outer H s E e s2) (E₁ := fun e s2 => CX0 outer H s E e s2) rfl
  exact (bx_cons (x_set 1 sc_l_begin.nd (em_add (em_add (em_mod (e_v 0) em_int) (em_mod (em_fdiv (e_v 0) em_int) em_int)) em_int))
    (bx_cons (sx_ite (t_lt (e_v 0) (em_pow em_int em_int)) (bx_one (x_ret (em_lst (s_cons em_int (s_cons (e_v 1) sm_nil))))) bx_nil)
    (bx_one (x_ret (em_lst (s_cons (e_v 0) (s_cons (e_v 1) sm_nil)))))))
theorem d_l_draw {P : Program} {w : World} {K : PySem.W.Frag} {mg : Str → Option Value} {base : Heap} {tabs : List Addr} {n : Nat} (AL : All P w K mg base tabs n) (M : Mg mg) {cdv : Value} {f : Addr} (A : Around) (outer : List Env) (s : Shared) (H : Hp) (E : XK)
    (hr : Room (2 * n + 3) (cxOf CX0 P w K mg base N_l_draw "_law_draw" (defScope s_l_draw) f cdv A outer s H E).A) (hgd : GdOk true (cxOf CX0 P w K mg base N_l_draw "_law_draw" (defScope s_l_draw) f cdv A outer s H E).A) : BX (cxOf CX0 P w K mg base N_l_draw "_law_draw" (defScope s_l_draw) f cdv A outer s H E) tabs (callD prog n) (defBody s_l_draw) f_l_draw.body := by
  have hp : PassesOwn (model P w) (cxOf CX0 P w K mg base N_l_draw "_law_draw" (defScope s_l_draw) f cdv A outer s H E).A (cxOf CX0 P w K mg base N_l_draw "_law_draw" (defScope s_l_draw) f cdv A outer s H E).env (cxOf CX0 P w K mg base N_l_draw "_law_draw" (defScope s_l_draw) f cdv A outer s H E).xe := passes_of (X := cxOf CX0 P w K mg base N_l_draw "_law_draw" (defScope s_l_draw) f cdv A outer s H E) (K := fun e s2 => CX0 outer H s E e s2) (E₁ := fun e s2 => CX0 outer H s E e s2) rfl
  exact (bx_cons (sx_ite (t_gt (e_ix (e_v 0) em_int) em_int) (bx_cons (x_set 3 sc_l_draw.nd (em_mod (e_ix (e_v 0) em_int) (e_v 1)))
    (bx_cons (x_six 0 em_int (em_fdiv (e_ix (e_v 0) em_int) (e_v 1)))
    (bx_one (x_retv 3)))) bx_nil)
    (bx_cons (x_set 2 sc_l_draw.nd (em_mod (em_add (em_mul (e_ix (e_v 0) em_int) em_int) em_int) em_int))
    (bx_cons (x_six 0 em_int (em_mod (em_add (em_mul (e_v 2) em_int) em_int) em_int))
    (bx_one (x_ret (em_mod (em_fdiv (em_mod (em_add (em_mul (e_ix (e_v 0) em_int) em_int) em_int) em_int) em_int) (e_v 1)))))))
theorem d_l_stage {P : Program} {w : World} {K : PySem.W.Frag} {mg : Str → Option Value} {base : Heap} {tabs : List Addr} {n : Nat} (AL : All P w K mg base tabs n) (M : Mg mg) {cdv : Value} {f : Addr} (A : Around) (outer : List Env) (s : Shared) (H : Hp) (E : XK)
    (hr : Room (2 * n + 3) (cxOf CX0 P w K mg base N_l_stage "_law_stage" (defScope s_l_stage) f cdv A outer s H E).A) (hgd : GdOk true (cxOf CX0 P w K mg base N_l_stage "_law_stage" (defScope s_l_stage) f cdv A outer s H E).A) : BX (cxOf CX0 P w K mg base N_l_stage "_law_stage" (defScope s_l_stage) f cdv A outer s H E) tabs (callD prog n) (defBody s_l_stage) f_l_stage.body := by
  have hp : PassesOwn (model P w) (cxOf CX0 P w K mg base N_l_stage "_law_stage" (defScope s_l_stage) f cdv A outer s H E).A (cxOf CX0 P w K mg base N_l_stage "_law_stage" (defScope s_l_stage) f cdv A outer s H E).env (cxOf CX0 P w K mg base N_l_stage "_law_stage" (defScope s_l_stage) f cdv A outer s H E).xe := passes_of (X := cxOf CX0 P w K mg base N_l_stage "_law_stage" (defScope s_l_stage) f cdv A outer s H E) (K := fun e s2 => CX0 outer H s E e s2) (E₁ := fun e s2 => CX0 outer H s E e s2) rfl
  exact (bx_cons (x_set 2 sc_l_stage.nd (e_colL M.b_list M.b_range rfl (s_cons (e_v 1) sm_nil)))
    (bx_cons (x_set 3 sc_l_stage.nd (em_lst sm_nil))
    (bx_cons (x_set 4 sc_l_stage.nd (e_ix (em_lst (s_cons em_int (s_cons em_int (s_cons em_int (s_cons (em_fdiv (e_v 1) em_int) (s_cons (em_fdiv (e_v 1) em_int) sm_nil)))))) (e_fx AL.c4 (hr.mono (by omega)) hgd (a_slot 0 (a_cons em_int am_nil)))))
    (bx_cons (x_for rfl hp (i_r1 M.b_range (s_cons (e_min M.b_min rfl (l_cons (e_v 4) (l_cons (em_fdiv (e_v 1) em_int) lm_nil))) sm_nil)) (g_n 5 sc_l_stage.nd) (bx_cons (x_set 6 sc_l_stage.nd (e_pop 2 (s_cons (e_fx AL.c4 (hr.mono (by omega)) hgd (a_slot 0 (a_cons (e_len M.b_len (l_cons (e_v 2) lm_nil)) am_nil))) sm_nil)))
    (bx_cons (x_set 7 sc_l_stage.nd (e_pop 2 (s_cons (e_fx AL.c4 (hr.mono (by omega)) hgd (a_slot 0 (a_cons (e_len M.b_len (l_cons (e_v 2) lm_nil)) am_nil))) sm_nil)))
    (bx_one (x_ex (e_append 3 (s_cons (em_tup (s_cons (e_min M.b_min rfl (l_cons (e_v 6) (l_cons (e_v 7) lm_nil))) (s_cons (e_max M.b_max rfl (l_cons (e_v 6) (l_cons (e_v 7) lm_nil))) sm_nil))) sm_nil)))))))
    (bx_one (x_ret (e_tuple M.b_tuple (l_cons (e_sorted M.b_sorted (l_cons (e_v 3) lm_nil)) lm_nil))))))))
theorem d_l_net {P : Program} {w : World} {K : PySem.W.Frag} {mg : Str → Option Value} {base : Heap} {tabs : List Addr} {n : Nat} (AL : All P w K mg base tabs n) (M : Mg mg) {cdv : Value} {f : Addr} (A : Around) (outer : List Env) (s : Shared) (H : Hp) (E : XK)
    (hr : Room (2 * n + 3) (cxOf CX0 P w K mg base N_l_net "_law_net" (defScope s_l_net) f cdv A outer s H E).A) (hgd : GdOk true (cxOf CX0 P w K mg base N_l_net "_law_net" (defScope s_l_net) f cdv A outer s H E).A) : BX (cxOf CX0 P w K mg base N_l_net "_law_net" (defScope s_l_net) f cdv A outer s H E) tabs (callD prog n) (defBody s_l_net) f_l_net.body := by
  have hp : PassesOwn (model P w) (cxOf CX0 P w K mg base N_l_net "_law_net" (defScope s_l_net) f cdv A outer s H E).A (cxOf CX0 P w K mg base N_l_net "_law_net" (defScope s_l_net) f cdv A outer s H E).env (cxOf CX0 P w K mg base N_l_net "_law_net" (defScope s_l_net) f cdv A outer s H E).xe := passes_of (X := cxOf CX0 P w K mg base N_l_net "_law_net" (defScope s_l_net) f cdv A outer s H E) (K := fun e s2 => CX0 outer H s E e s2) (E₁ := fun e s2 => CX0 outer H s E e s2) rfl
  exact (bx_cons (x_set 3 sc_l_net.nd (e_ix (em_lst (s_cons em_int (s_cons em_int (s_cons em_int (s_cons em_int (s_cons em_int (s_cons em_int sm_nil))))))) (e_fx AL.c4 (hr.mono (by omega)) hgd (a_slot 0 (a_cons em_int am_nil)))))
    (bx_cons (x_set 4 sc_l_net.nd (e_fx AL.c4 (hr.mono (by omega)) hgd (a_slot 0 (a_cons em_int am_nil))))
    (bx_cons (sx_ite (t_eq hr (e_fx AL.c4 (hr.mono (by omega)) hgd (a_slot 0 (a_cons em_int am_nil))) em_int) (bx_one (x_set 3 sc_l_net.nd (e_v 1))) bx_nil)
    (bx_cons (sx_ite (t_eq hr (e_fx AL.c4 (hr.mono (by omega)) hgd (a_slot 0 (a_cons em_int am_nil))) em_int) (bx_one (x_set 4 sc_l_net.nd (e_v 2))) bx_nil)
    (bx_one (x_ret (em_tup (s_cons (e_v 3) (s_cons (e_tuple M.b_tuple (l_cons (em_lc (ow := [("_law_k", 5)]) rfl sc_l_net.nd (blkOk_by rfl) (i_r1 M.b_range (s_cons (e_v 4) sm_nil)) (fun s H C cl fp => (g_n 5 sc_l_net.nd)) (fun s H C cl fp => tsm_nil) (fun s H C cl fp => (e_fx AL.c5 (hr.mono (by omega)) hgd (a_slot 0 (a_slot 3 am_nil)))) (fun _ => rfl)) lm_nil)) sm_nil)))))))))
theorem d_l_setting {P : Program} {w : World} {K : PySem.W.Frag} {mg : Str → Option Value} {base : Heap} {tabs : List Addr} {n : Nat} (AL : All P w K mg base tabs n) (M : Mg mg) {cdv : Value} {f : Addr} (A : Around) (outer : List Env) (s : Shared) (H : Hp) (E : XK)
    (hr : Room (2 * n + 3) (cxOf CX0 P w K mg base N_l_setting "_law_setting" (defScope s_l_setting) f cdv A outer s H E).A) (hgd : GdOk true (cxOf CX0 P w K mg base N_l_setting "_law_setting" (defScope s_l_setting) f cdv A outer s H E).A) : BX (cxOf CX0 P w K mg base N_l_setting "_law_setting" (defScope s_l_setting) f cdv A outer s H E) tabs (callD prog n) (defBody s_l_setting) f_l_setting.body := by
  have hp : PassesOwn (model P w) (cxOf CX0 P w K mg base N_l_setting "_law_setting" (defScope s_l_setting) f cdv A outer s H E).A (cxOf CX0 P w K mg base N_l_setting "_law_setting" (defScope s_l_setting) f cdv A outer s H E).env (cxOf CX0 P w K mg base N_l_setting "_law_setting" (defScope s_l_setting) f cdv A outer s H E).xe := passes_of (X := cxOf CX0 P w K mg base N_l_setting "_law_setting" (defScope s_l_setting) f cdv A outer s H E) (K := fun e s2 => CX0 outer H s E e s2) (E₁ := fun e s2 => CX0 outer H s E e s2) rfl
  exact (bx_cons (x_set 2 sc_l_setting.nd (em_lst sm_nil))
    (bx_cons (x_for rfl hp (i_seq (e_ix (e_v 1) em_int)) (g_n 3 sc_l_setting.nd) (bx_one (x_ex (e_append 2 (s_cons (e_tuple M.b_tuple (l_cons (em_lc (ow := [("_law_switch", 4)]) rfl sc_l_setting.nd (blkOk_by rfl) (i_seq (e_v 3)) (fun s H C cl fp => (g_n 4 sc_l_setting.nd)) (fun s H C cl fp => tsm_nil) (fun s H C cl fp => (e_fx AL.c4 (hr.mono (by omega)) hgd (a_slot 0 (a_cons em_int am_nil)))) (fun _ => rfl)) lm_nil)) sm_nil)))))
    (bx_one (x_ret (e_tuple M.b_tuple (l_cons (e_v 2) lm_nil))))))
theorem d_l_across {P : Program} {w : World} {K : PySem.W.Frag} {mg : Str → Option Value} {base : Heap} {tabs : List Addr} {n : Nat} (AL : All P w K mg base tabs n) (M : Mg mg) {cdv : Value} {f : Addr} (A : Around) (outer : List Env) (s : Shared) (H : Hp) (E : XK)
    (hr : Room (2 * n + 3) (cxOf CX0 P w K mg base N_l_across "_law_across" (defScope s_l_across) f cdv A outer s H E).A) (hgd : GdOk true (cxOf CX0 P w K mg base N_l_across "_law_across" (defScope s_l_across) f cdv A outer s H E).A) : BX (cxOf CX0 P w K mg base N_l_across "_law_across" (defScope s_l_across) f cdv A outer s H E) tabs (callD prog n) (defBody s_l_across) f_l_across.body := by
  have hp : PassesOwn (model P w) (cxOf CX0 P w K mg base N_l_across "_law_across" (defScope s_l_across) f cdv A outer s H E).A (cxOf CX0 P w K mg base N_l_across "_law_across" (defScope s_l_across) f cdv A outer s H E).env (cxOf CX0 P w K mg base N_l_across "_law_across" (defScope s_l_across) f cdv A outer s H E).xe := passes_of (X := cxOf CX0 P w K mg base N_l_across "_law_across" (defScope s_l_across) f cdv A outer s H E) (K := fun e s2 => CX0 outer H s E e s2) (E₁ := fun e s2 => CX0 outer H s E e s2) rfl
  exact (bx_cons (x_for rfl hp (i_zip M.b_zip (s_cons (e_v 0) (s_cons (e_v 1) sm_nil))) (g_t (n := 0) rfl (gs_cons (g_n 3 sc_l_across.nd) (gs_cons (g_n 4 sc_l_across.nd) gms_nil))) (bx_one (sx_ite (tm_wm (wm_and (t_eq hr (e_v 4) em_int) (wm_and1 (t_inn hr (e_v 2) (e_v 3))))) (bx_one (x_ret (em_sub (e_sum M.b_sum rfl (l_cons (e_v 3) lm_nil)) (e_v 2)))) bx_nil)))
    (bx_one (x_retv 2)))
theorem d_l_way {P : Program} {w : World} {K : PySem.W.Frag} {mg : Str → Option Value} {base : Heap} {tabs : List Addr} {n : Nat} (AL : All P w K mg base tabs n) (M : Mg mg) {cdv : Value} {f : Addr} (A : Around) (outer : List Env) (s : Shared) (H : Hp) (E : XK)
    (hr : Room (2 * n + 3) (cxOf CX0 P w K mg base N_l_way "_law_way" (defScope s_l_way) f cdv A outer s H E).A) (hgd : GdOk true (cxOf CX0 P w K mg base N_l_way "_law_way" (defScope s_l_way) f cdv A outer s H E).A) : BX (cxOf CX0 P w K mg base N_l_way "_law_way" (defScope s_l_way) f cdv A outer s H E) tabs (callD prog n) (defBody s_l_way) f_l_way.body := by
  have hp : PassesOwn (model P w) (cxOf CX0 P w K mg base N_l_way "_law_way" (defScope s_l_way) f cdv A outer s H E).A (cxOf CX0 P w K mg base N_l_way "_law_way" (defScope s_l_way) f cdv A outer s H E).env (cxOf CX0 P w K mg base N_l_way "_law_way" (defScope s_l_way) f cdv A outer s H E).xe := passes_of (X := cxOf CX0 P w K mg base N_l_way "_law_way" (defScope s_l_way) f cdv A outer s H E) (K := fun e s2 => CX0 outer H s E e s2) (E₁ := fun e s2 => CX0 outer H s E e s2) rfl
  exact (bx_cons (x_set 3 sc_l_way.nd (em_lst (s_cons (e_v 2) sm_nil)))
    (bx_cons (x_for rfl hp (i_zip M.b_zip (s_cons (e_ix (e_v 0) em_int) (s_cons (e_v 1) sm_nil))) (g_t (n := 0) rfl (gs_cons (g_n 4 sc_l_way.nd) (gs_cons (g_n 5 sc_l_way.nd) gms_nil))) (bx_one (x_ex (e_append 3 (s_cons (e_fx AL.c8 (hr.mono (by omega)) hgd (a_slot 4 (a_slot 5 (a_cons (e_ix (e_v 3) (em_neg em_int)) am_nil)))) sm_nil)))))
    (bx_one (x_ret (e_tuple M.b_tuple (l_cons (e_v 3) lm_nil))))))
theorem d_l_right {P : Program} {w : World} {K : PySem.W.Frag} {mg : Str → Option Value} {base : Heap} {tabs : List Addr} {n : Nat} (AL : All P w K mg base tabs n) (M : Mg mg) {cdv : Value} {f : Addr} (A : Around) (outer : List Env) (s : Shared) (H : Hp) (E : XK)
    (hr : Room (2 * n + 3) (cxOf CX0 P w K mg base N_l_right "_law_right" (defScope s_l_right) f cdv A outer s H E).A) (hgd : GdOk true (cxOf CX0 P w K mg base N_l_right "_law_right" (defScope s_l_right) f cdv A outer s H E).A) : BX (cxOf CX0 P w K mg base N_l_right "_law_right" (defScope s_l_right) f cdv A outer s H E) tabs (callD prog n) (defBody s_l_right) f_l_right.body := by
  have hp : PassesOwn (model P w) (cxOf CX0 P w K mg base N_l_right "_law_right" (defScope s_l_right) f cdv A outer s H E).A (cxOf CX0 P w K mg base N_l_right "_law_right" (defScope s_l_right) f cdv A outer s H E).env (cxOf CX0 P w K mg base N_l_right "_law_right" (defScope s_l_right) f cdv A outer s H E).xe := passes_of (X := cxOf CX0 P w K mg base N_l_right "_law_right" (defScope s_l_right) f cdv A outer s H E) (K := fun e s2 => CX0 outer H s E e s2) (E₁ := fun e s2 => CX0 outer H s E e s2) rfl
  exact (bx_cons (x_set 2 sc_l_right.nd (e_fx AL.c0 (hr.mono (by omega)) hgd (a_slot 0 am_nil)))
    (bx_cons (x_set 3 sc_l_right.nd (e_fx AL.c1 (hr.mono (by omega)) hgd (a_slot 1 am_nil)))
    (bx_cons (sx_ite (tm_wm (wm_or (t_ne hr (e_repr M.b_repr hgd hr (l_cons (e_v 2) lm_nil)) (e_repr M.b_repr hgd hr (l_cons (em_tup (s_cons (e_ix (e_v 0) em_int) (s_cons (e_revT M.b_tuple M.b_reversed rfl (s_cons (e_ix (e_v 0) em_int) sm_nil)) sm_nil))) lm_nil))) (wm_or1 (t_ne hr (e_repr M.b_repr hgd hr (l_cons (e_v 3) lm_nil)) (e_repr M.b_repr hgd hr (l_cons (e_revT M.b_tuple M.b_reversed rfl (s_cons (e_v 1) sm_nil)) lm_nil)))))) (bx_one (x_ret em_bl)) bx_nil)
    (bx_cons (x_for rfl hp (i_r1 M.b_range (s_cons (e_ix (e_v 0) em_int) sm_nil)) (g_n 4 sc_l_right.nd) (bx_cons (x_set 5 sc_l_right.nd (e_fx AL.c9 (hr.mono (by omega)) hgd (a_slot 0 (a_slot 1 (a_slot 4 am_nil)))))
    (bx_one (sx_ite (t_ne hr (e_fx AL.c9 (hr.mono (by omega)) hgd (a_slot 2 (a_slot 3 (a_cons (e_ix (e_v 5) (em_neg em_int)) am_nil)))) (em_rv (e_v 5))) (bx_one (x_ret em_bl)) bx_nil))))
    (bx_one (x_ret (em_and (em_eq hr (e_repr M.b_repr hgd hr (l_cons (e_fx AL.c0 (hr.mono (by omega)) hgd (a_slot 2 am_nil)) lm_nil)) (e_repr M.b_repr hgd hr (l_cons (e_v 0) lm_nil))) (em_one (em_eq hr (e_repr M.b_repr hgd hr (l_cons (e_fx AL.c1 (hr.mono (by omega)) hgd (a_slot 3 am_nil)) lm_nil)) (e_repr M.b_repr hgd hr (l_cons (e_v 1) lm_nil)))))))))))
theorem d_law {P : Program} {w : World} {K : PySem.W.Frag} {mg : Str → Option Value} {base : Heap} {tabs : List Addr} {n : Nat} (AL : All P w K mg base tabs n) (M : Mg mg) {cdv : Value} {f : Addr} (A : Around) (outer : List Env) (s : Shared) (H : Hp) (E : XK)
    (hr : Room (2 * n + 3) (cxOf CX0 P w K mg base N_law "law" (defScope s_law) f cdv A outer s H E).A) (hgd : GdOk true (cxOf CX0 P w K mg base N_law "law" (defScope s_law) f cdv A outer s H E).A) : BX (cxOf CX0 P w K mg base N_law "law" (defScope s_law) f cdv A outer s H E) tabs (callD prog n) (defBody s_law) f_law.body := by
  have hp : PassesOwn (model P w) (cxOf CX0 P w K mg base N_law "law" (defScope s_law) f cdv A outer s H E).A (cxOf CX0 P w K mg base N_law "law" (defScope s_law) f cdv A outer s H E).env (cxOf CX0 P w K mg base N_law "law" (defScope s_law) f cdv A outer s H E).xe := passes_of (X := cxOf CX0 P w K mg base N_law "law" (defScope s_law) f cdv A outer s H E) (K := fun e s2 => CX0 outer H s E e s2) (E₁ := fun e s2 => CX0 outer H s E e s2) rfl
  exact (bx_cons (x_for rfl hp (i_r1 M.b_range (s_cons (e_max M.b_max rfl (l_cons em_int (l_cons (e_min M.b_min rfl (l_cons em_int (l_cons (e_len M.b_len (l_cons (e_v 0) lm_nil)) lm_nil))) lm_nil))) sm_nil)) (g_n 1 sc_law.nd) (bx_cons (x_set 2 sc_law.nd (e_fx AL.c3 (hr.mono (by omega)) hgd (a_cons (e_fx AL.c2 (hr.mono (by omega)) hgd (a_slot 0 (a_slot 1 am_nil))) am_nil)))
    (bx_cons (x_set 3 sc_law.nd (e_fx AL.c6 (hr.mono (by omega)) hgd (a_slot 2 (a_cons em_int (a_cons em_int am_nil)))))
    (bx_one (sx_ite (tm_not (t_em (e_fx AL.c10 (hr.mono (by omega)) hgd (a_slot 3 (a_cons (e_fx AL.c7 (hr.mono (by omega)) hgd (a_slot 2 (a_slot 3 am_nil))) am_nil))))) (bx_one (x_ret em_bl)) bx_nil)))))
    (bx_one (x_ret (em_and (e_fx AL.c10 (hr.mono (by omega)) hgd (a_cons (em_tup (s_cons em_int (s_cons (em_tup sm_nil) sm_nil))) (a_cons (em_tup sm_nil) am_nil))) (em_one (e_fx AL.c10 (hr.mono (by omega)) hgd (a_cons (em_tup (s_cons em_int (s_cons (em_tup (s_cons (em_tup sm_nil) (s_cons (em_tup (s_cons (em_tup (s_cons em_int (s_cons em_int sm_nil))) sm_nil)) sm_nil))) sm_nil))) (a_cons (em_tup (s_cons (em_tup sm_nil) (s_cons (em_tup (s_cons em_int sm_nil)) sm_nil))) am_nil))))))))
theorem all_ok {P : Program} {w : World} {K : PySem.W.Frag} {mg : Str → Option Value} {base : Heap} {tabs : List Addr} (M : Mg mg) {f0 : Addr} {cd0 : Value} {f1 : Addr} {cd1 : Value} {f2 : Addr} {cd2 : Value} {f3 : Addr} {cd3 : Value} {f4 : Addr} {cd4 : Value} {f5 : Addr} {cd5 : Value} {f6 : Addr} {cd6 : Value} {f7 : Addr} {cd7 : Value} {f8 : Addr} {cd8 : Value} {f9 : Addr} {cd9 : Value} {f10 : Addr} {cd10 : Value} {f11 : Addr} {cd11 : Value}
    (D0 : DfOk K mg s_about "about" ["net"] f0 cd0) (D1 : DfOk K mg s_about_setting "about_setting" ["setting"] f1 cd1) (D2 : DfOk K mg s_l_cell_at "_law_cell_at" ["_law_script", "_law_k"] f2 cd2) (D3 : DfOk K mg s_l_begin "_law_begin" ["_law_cell"] f3 cd3) (D4 : DfOk K mg s_l_draw "_law_draw" ["_law_state", "_law_many"] f4 cd4) (D5 : DfOk K mg s_l_stage "_law_stage" ["_law_state", "_law_many"] f5 cd5) (D6 : DfOk K mg s_l_net "_law_net" ["_law_state", "_law_great", "_law_long"] f6 cd6) (D7 : DfOk K mg s_l_setting "_law_setting" ["_law_state", "_law_net_here"] f7 cd7) (D8 : DfOk K mg s_l_across "_law_across" ["_law_stage_here", "_law_ways", "_law_wire"] f8 cd8) (D9 : DfOk K mg s_l_way "_law_way" ["_law_net_here", "_law_setting_here", "_law_wire"] f9 cd9) (D10 : DfOk K mg s_l_right "_law_right" ["_law_net_here", "_law_setting_here"] f10 cd10) (D11 : DfOk K mg s_law "law" ["_law_script"] f11 cd11)
     : ∀ n, All P w K mg base tabs n
  | 0 => ⟨D0.zero, D1.zero, D2.zero, D3.zero, D4.zero, D5.zero, D6.zero, D7.zero, D8.zero, D9.zero, D10.zero, D11.zero⟩
  | n + 1 => by
    have AL := all_ok (P := P) (w := w) (base := base) (tabs := tabs) M D0 D1 D2 D3 D4 D5 D6 D7 D8 D9 D10 D11  n
    exact ⟨D0.succ sc_about rfl rfl (by decide) rfl rfl (fun A outer s H E hr hg => d_about AL M A outer s H E hr hg),
      D1.succ sc_about_setting rfl rfl (by decide) rfl rfl (fun A outer s H E hr hg => d_about_setting AL M A outer s H E hr hg),
      D2.succ sc_l_cell_at rfl rfl (by decide) rfl rfl (fun A outer s H E hr hg => d_l_cell_at AL M A outer s H E hr hg),
      D3.succ sc_l_begin rfl rfl (by decide) rfl rfl (fun A outer s H E hr hg => d_l_begin AL M A outer s H E hr hg),
      D4.succ sc_l_draw rfl rfl (by decide) rfl rfl (fun A outer s H E hr hg => d_l_draw AL M A outer s H E hr hg),
      D5.succ sc_l_stage rfl rfl (by decide) rfl rfl (fun A outer s H E hr hg => d_l_stage AL M A outer s H E hr hg),
      D6.succ sc_l_net rfl rfl (by decide) rfl rfl (fun A outer s H E hr hg => d_l_net AL M A outer s H E hr hg),
      D7.succ sc_l_setting rfl rfl (by decide) rfl rfl (fun A outer s H E hr hg => d_l_setting AL M A outer s H E hr hg),
      D8.succ sc_l_across rfl rfl (by decide) rfl rfl (fun A outer s H E hr hg => d_l_across AL M A outer s H E hr hg),
      D9.succ sc_l_way rfl rfl (by decide) rfl rfl (fun A outer s H E hr hg => d_l_way AL M A outer s H E hr hg),
      D10.succ sc_l_right rfl rfl (by decide) rfl rfl (fun A outer s H E hr hg => d_l_right AL M A outer s H E hr hg),
      D11.succ sc_law rfl rfl (by decide) rfl rfl (fun A outer s H E hr hg => d_law AL M A outer s H E hr hg)⟩
theorem law_mk {l : PySem.W.OpenLaw} {q : Program} {w : World} {K : PySem.W.Frag} {h : Heap} {mg : Str → Option Value} {fa : Addr} (KX : K.In h) (G : h.Ns mainGlobals mg) (hfa : mg "law" = some (.ref fa))
    (T : ∀ (y : Str) (f : Addr), ((recsOf q).any fun e => e.name == y) = true → mg y = some (.ref f) → OwnTab2 K f h)
    (hlaw : ∀ ns : List Int, ns.length ≤ 63 → (∀ z ∈ ns, Builtin.Int.intBits z ≤ 1048576) → ∃ ws, callD prog 16 11 [.im (.lst (ns.map .int))] = some (some (.im (.bl true), ws)))
    {f0 : Addr} {cd0 : Value} {oc0 kV0 dc0 pm0 ct0 : Value} {od0 an0 : Option Addr} {sl0 : Array (Option Value)} {f1 : Addr} {cd1 : Value} {oc1 kV1 dc1 pm1 ct1 : Value} {od1 an1 : Option Addr} {sl1 : Array (Option Value)} {f2 : Addr} {cd2 : Value} {oc2 kV2 dc2 pm2 ct2 : Value} {od2 an2 : Option Addr} {sl2 : Array (Option Value)} {f3 : Addr} {cd3 : Value} {oc3 kV3 dc3 pm3 ct3 : Value} {od3 an3 : Option Addr} {sl3 : Array (Option Value)} {f4 : Addr} {cd4 : Value} {oc4 kV4 dc4 pm4 ct4 : Value} {od4 an4 : Option Addr} {sl4 : Array (Option Value)} {f5 : Addr} {cd5 : Value} {oc5 kV5 dc5 pm5 ct5 : Value} {od5 an5 : Option Addr} {sl5 : Array (Option Value)} {f6 : Addr} {cd6 : Value} {oc6 kV6 dc6 pm6 ct6 : Value} {od6 an6 : Option Addr} {sl6 : Array (Option Value)} {f7 : Addr} {cd7 : Value} {oc7 kV7 dc7 pm7 ct7 : Value} {od7 an7 : Option Addr} {sl7 : Array (Option Value)} {f8 : Addr} {cd8 : Value} {oc8 kV8 dc8 pm8 ct8 : Value} {od8 an8 : Option Addr} {sl8 : Array (Option Value)} {f9 : Addr} {cd9 : Value} {oc9 kV9 dc9 pm9 ct9 : Value} {od9 an9 : Option Addr} {sl9 : Array (Option Value)} {f10 : Addr} {cd10 : Value} {oc10 kV10 dc10 pm10 ct10 : Value} {od10 an10 : Option Addr} {sl10 : Array (Option Value)} {f11 : Addr} {cd11 : Value} {oc11 kV11 dc11 pm11 ct11 : Value} {od11 an11 : Option Addr} {sl11 : Array (Option Value)} 
    (a0 : PySem.W.nsIn K mainGlobals "about" = some (some (.ref f0))) (l0 : K.lookup f0 = some ⟨oc0, od0, .func (PySem.W.fnOf "about" "about" (defArgs s_about) (defBody s_about) (defScope s_about) .none kV0 dc0 pm0 an0 cd0 ct0), sl0⟩) (u0 : PySem.W.codeIn K cd0 "about" = true) (k0 : PySem.W.keepIn K (.ref f0) = true)
    (a1 : PySem.W.nsIn K mainGlobals "about_setting" = some (some (.ref f1))) (l1 : K.lookup f1 = some ⟨oc1, od1, .func (PySem.W.fnOf "about_setting" "about_setting" (defArgs s_about_setting) (defBody s_about_setting) (defScope s_about_setting) .none kV1 dc1 pm1 an1 cd1 ct1), sl1⟩) (u1 : PySem.W.codeIn K cd1 "about_setting" = true) (k1 : PySem.W.keepIn K (.ref f1) = true)
    (a2 : PySem.W.nsIn K mainGlobals "_law_cell_at" = some (some (.ref f2))) (l2 : K.lookup f2 = some ⟨oc2, od2, .func (PySem.W.fnOf "_law_cell_at" "_law_cell_at" (defArgs s_l_cell_at) (defBody s_l_cell_at) (defScope s_l_cell_at) .none kV2 dc2 pm2 an2 cd2 ct2), sl2⟩) (u2 : PySem.W.codeIn K cd2 "_law_cell_at" = true) (k2 : PySem.W.keepIn K (.ref f2) = true)
    (a3 : PySem.W.nsIn K mainGlobals "_law_begin" = some (some (.ref f3))) (l3 : K.lookup f3 = some ⟨oc3, od3, .func (PySem.W.fnOf "_law_begin" "_law_begin" (defArgs s_l_begin) (defBody s_l_begin) (defScope s_l_begin) .none kV3 dc3 pm3 an3 cd3 ct3), sl3⟩) (u3 : PySem.W.codeIn K cd3 "_law_begin" = true) (k3 : PySem.W.keepIn K (.ref f3) = true)
    (a4 : PySem.W.nsIn K mainGlobals "_law_draw" = some (some (.ref f4))) (l4 : K.lookup f4 = some ⟨oc4, od4, .func (PySem.W.fnOf "_law_draw" "_law_draw" (defArgs s_l_draw) (defBody s_l_draw) (defScope s_l_draw) .none kV4 dc4 pm4 an4 cd4 ct4), sl4⟩) (u4 : PySem.W.codeIn K cd4 "_law_draw" = true) (k4 : PySem.W.keepIn K (.ref f4) = true)
    (a5 : PySem.W.nsIn K mainGlobals "_law_stage" = some (some (.ref f5))) (l5 : K.lookup f5 = some ⟨oc5, od5, .func (PySem.W.fnOf "_law_stage" "_law_stage" (defArgs s_l_stage) (defBody s_l_stage) (defScope s_l_stage) .none kV5 dc5 pm5 an5 cd5 ct5), sl5⟩) (u5 : PySem.W.codeIn K cd5 "_law_stage" = true) (k5 : PySem.W.keepIn K (.ref f5) = true)
    (a6 : PySem.W.nsIn K mainGlobals "_law_net" = some (some (.ref f6))) (l6 : K.lookup f6 = some ⟨oc6, od6, .func (PySem.W.fnOf "_law_net" "_law_net" (defArgs s_l_net) (defBody s_l_net) (defScope s_l_net) .none kV6 dc6 pm6 an6 cd6 ct6), sl6⟩) (u6 : PySem.W.codeIn K cd6 "_law_net" = true) (k6 : PySem.W.keepIn K (.ref f6) = true)
    (a7 : PySem.W.nsIn K mainGlobals "_law_setting" = some (some (.ref f7))) (l7 : K.lookup f7 = some ⟨oc7, od7, .func (PySem.W.fnOf "_law_setting" "_law_setting" (defArgs s_l_setting) (defBody s_l_setting) (defScope s_l_setting) .none kV7 dc7 pm7 an7 cd7 ct7), sl7⟩) (u7 : PySem.W.codeIn K cd7 "_law_setting" = true) (k7 : PySem.W.keepIn K (.ref f7) = true)
    (a8 : PySem.W.nsIn K mainGlobals "_law_across" = some (some (.ref f8))) (l8 : K.lookup f8 = some ⟨oc8, od8, .func (PySem.W.fnOf "_law_across" "_law_across" (defArgs s_l_across) (defBody s_l_across) (defScope s_l_across) .none kV8 dc8 pm8 an8 cd8 ct8), sl8⟩) (u8 : PySem.W.codeIn K cd8 "_law_across" = true) (k8 : PySem.W.keepIn K (.ref f8) = true)
    (a9 : PySem.W.nsIn K mainGlobals "_law_way" = some (some (.ref f9))) (l9 : K.lookup f9 = some ⟨oc9, od9, .func (PySem.W.fnOf "_law_way" "_law_way" (defArgs s_l_way) (defBody s_l_way) (defScope s_l_way) .none kV9 dc9 pm9 an9 cd9 ct9), sl9⟩) (u9 : PySem.W.codeIn K cd9 "_law_way" = true) (k9 : PySem.W.keepIn K (.ref f9) = true)
    (a10 : PySem.W.nsIn K mainGlobals "_law_right" = some (some (.ref f10))) (l10 : K.lookup f10 = some ⟨oc10, od10, .func (PySem.W.fnOf "_law_right" "_law_right" (defArgs s_l_right) (defBody s_l_right) (defScope s_l_right) .none kV10 dc10 pm10 an10 cd10 ct10), sl10⟩) (u10 : PySem.W.codeIn K cd10 "_law_right" = true) (k10 : PySem.W.keepIn K (.ref f10) = true)
    (a11 : PySem.W.nsIn K mainGlobals "law" = some (some (.ref f11))) (l11 : K.lookup f11 = some ⟨oc11, od11, .func (PySem.W.fnOf "law" "law" (defArgs s_law) (defBody s_law) (defScope s_law) .none kV11 dc11 pm11 an11 cd11 ct11), sl11⟩) (u11 : PySem.W.codeIn K cd11 "law" = true) (k11 : PySem.W.keepIn K (.ref f11) = true)
    (z_len : PySem.W.nsIn K mainGlobals "len" = some none)
    (z_list : PySem.W.nsIn K mainGlobals "list" = some none)
    (z_max : PySem.W.nsIn K mainGlobals "max" = some none)
    (z_min : PySem.W.nsIn K mainGlobals "min" = some none)
    (z_range : PySem.W.nsIn K mainGlobals "range" = some none)
    (z_repr : PySem.W.nsIn K mainGlobals "repr" = some none)
    (z_reversed : PySem.W.nsIn K mainGlobals "reversed" = some none)
    (z_sorted : PySem.W.nsIn K mainGlobals "sorted" = some none)
    (z_sum : PySem.W.nsIn K mainGlobals "sum" = some none)
    (z_tuple : PySem.W.nsIn K mainGlobals "tuple" = some none)
    (z_zip : PySem.W.nsIn K mainGlobals "zip" = some none)
    : LawG l w K 34 63 "_law_script" mg fa h := by
  have b0 := (fun_mk (st := s_about) l0 u0 k0).binds (ps := ["net"]) fun _ _ _ _ _ _ us hl => match us, hl with | [_], _ => rfl
  have D0 : DfOk K mg s_about "about" ["net"] f0 cd0 := ⟨_, _, _, _, _, _, _, _, PySem.W.mg_of KX G a0, l0, u0, k0, b0⟩
  have b1 := (fun_mk (st := s_about_setting) l1 u1 k1).binds (ps := ["setting"]) fun _ _ _ _ _ _ us hl => match us, hl with | [_], _ => rfl
  have D1 : DfOk K mg s_about_setting "about_setting" ["setting"] f1 cd1 := ⟨_, _, _, _, _, _, _, _, PySem.W.mg_of KX G a1, l1, u1, k1, b1⟩
  have b2 := (fun_mk (st := s_l_cell_at) l2 u2 k2).binds (ps := ["_law_script", "_law_k"]) fun _ _ _ _ _ _ us hl => match us, hl with | [_, _], _ => rfl
  have D2 : DfOk K mg s_l_cell_at "_law_cell_at" ["_law_script", "_law_k"] f2 cd2 := ⟨_, _, _, _, _, _, _, _, PySem.W.mg_of KX G a2, l2, u2, k2, b2⟩
  have b3 := (fun_mk (st := s_l_begin) l3 u3 k3).binds (ps := ["_law_cell"]) fun _ _ _ _ _ _ us hl => match us, hl with | [_], _ => rfl
  have D3 : DfOk K mg s_l_begin "_law_begin" ["_law_cell"] f3 cd3 := ⟨_, _, _, _, _, _, _, _, PySem.W.mg_of KX G a3, l3, u3, k3, b3⟩
  have b4 := (fun_mk (st := s_l_draw) l4 u4 k4).binds (ps := ["_law_state", "_law_many"]) fun _ _ _ _ _ _ us hl => match us, hl with | [_, _], _ => rfl
  have D4 : DfOk K mg s_l_draw "_law_draw" ["_law_state", "_law_many"] f4 cd4 := ⟨_, _, _, _, _, _, _, _, PySem.W.mg_of KX G a4, l4, u4, k4, b4⟩
  have b5 := (fun_mk (st := s_l_stage) l5 u5 k5).binds (ps := ["_law_state", "_law_many"]) fun _ _ _ _ _ _ us hl => match us, hl with | [_, _], _ => rfl
  have D5 : DfOk K mg s_l_stage "_law_stage" ["_law_state", "_law_many"] f5 cd5 := ⟨_, _, _, _, _, _, _, _, PySem.W.mg_of KX G a5, l5, u5, k5, b5⟩
  have b6 := (fun_mk (st := s_l_net) l6 u6 k6).binds (ps := ["_law_state", "_law_great", "_law_long"]) fun _ _ _ _ _ _ us hl => match us, hl with | [_, _, _], _ => rfl
  have D6 : DfOk K mg s_l_net "_law_net" ["_law_state", "_law_great", "_law_long"] f6 cd6 := ⟨_, _, _, _, _, _, _, _, PySem.W.mg_of KX G a6, l6, u6, k6, b6⟩
  have b7 := (fun_mk (st := s_l_setting) l7 u7 k7).binds (ps := ["_law_state", "_law_net_here"]) fun _ _ _ _ _ _ us hl => match us, hl with | [_, _], _ => rfl
  have D7 : DfOk K mg s_l_setting "_law_setting" ["_law_state", "_law_net_here"] f7 cd7 := ⟨_, _, _, _, _, _, _, _, PySem.W.mg_of KX G a7, l7, u7, k7, b7⟩
  have b8 := (fun_mk (st := s_l_across) l8 u8 k8).binds (ps := ["_law_stage_here", "_law_ways", "_law_wire"]) fun _ _ _ _ _ _ us hl => match us, hl with | [_, _, _], _ => rfl
  have D8 : DfOk K mg s_l_across "_law_across" ["_law_stage_here", "_law_ways", "_law_wire"] f8 cd8 := ⟨_, _, _, _, _, _, _, _, PySem.W.mg_of KX G a8, l8, u8, k8, b8⟩
  have b9 := (fun_mk (st := s_l_way) l9 u9 k9).binds (ps := ["_law_net_here", "_law_setting_here", "_law_wire"]) fun _ _ _ _ _ _ us hl => match us, hl with | [_, _, _], _ => rfl
  have D9 : DfOk K mg s_l_way "_law_way" ["_law_net_here", "_law_setting_here", "_law_wire"] f9 cd9 := ⟨_, _, _, _, _, _, _, _, PySem.W.mg_of KX G a9, l9, u9, k9, b9⟩
  have b10 := (fun_mk (st := s_l_right) l10 u10 k10).binds (ps := ["_law_net_here", "_law_setting_here"]) fun _ _ _ _ _ _ us hl => match us, hl with | [_, _], _ => rfl
  have D10 : DfOk K mg s_l_right "_law_right" ["_law_net_here", "_law_setting_here"] f10 cd10 := ⟨_, _, _, _, _, _, _, _, PySem.W.mg_of KX G a10, l10, u10, k10, b10⟩
  have b11 := (fun_mk (st := s_law) l11 u11 k11).binds (ps := ["_law_script"]) fun _ _ _ _ _ _ us hl => match us, hl with | [_], _ => rfl
  have D11 : DfOk K mg s_law "law" ["_law_script"] f11 cd11 := ⟨_, _, _, _, _, _, _, _, PySem.W.mg_of KX G a11, l11, u11, k11, b11⟩
  have M : Mg mg := ⟨PySem.W.mg_none_of KX G z_len, PySem.W.mg_none_of KX G z_list, PySem.W.mg_none_of KX G z_max, PySem.W.mg_none_of KX G z_min, PySem.W.mg_none_of KX G z_range, PySem.W.mg_none_of KX G z_repr, PySem.W.mg_none_of KX G z_reversed, PySem.W.mg_none_of KX G z_sorted, PySem.W.mg_none_of KX G z_sum, PySem.W.mg_none_of KX G z_tuple, PySem.W.mg_none_of KX G z_zip⟩
  have efa := hfa.symm.trans (PySem.W.mg_of KX G a11)
  cases efa
  refine ⟨PySem.W.fnOf "law" "law" (defArgs s_law) (defBody s_law) (defScope s_law) .none kV11 dc11 pm11 an11 cd11 ct11, [], spF ⟨K, w, ([] : List (Addr × Addr)).map (·.2)⟩ (callD prog 16) 11, ?_, ?_, ?_, fun s u => .of_eq rfl, fun H a ns hl hb hH hS => sp_law (fun P hP => ?_) hS (hlaw ns hl hb), fun base KB GB TBs => ?_⟩
  · intro p hp; cases hp
  · intro p hp; cases hp
  · intro p hp; cases hp
  · cases hP
  · have hm : ∀ p ∈ ([] : List (Addr × Addr)), p.2 ∈ ([] : List (Addr × Addr)).map (·.2) := fun p hp => List.mem_map.mpr ⟨p, hp, rfl⟩
    have AL := all_ok (P := l.prog) (w := w) (base := base) (tabs := ([] : List (Addr × Addr)).map (·.2)) M D0 D1 D2 D3 D4 D5 D6 D7 D8 D9 D10 D11  15
    exact (fnG_succ (n := 15) l11 u11 sc_law rfl rfl (by decide) rfl rfl (fun A outer s H E hr hg => d_law AL M A outer s H E hr hg))
end SwK

set_option linter.all false
set_option maxRecDepth 100000
/-! The small language run symbol by symbol: each form handed on to a named rest, so that simp never goes under a binder. -/
namespace SwP
open Sw
section
variable {α β : Type} {cf : CF} {env e1 : En} {vw : Bool}
/-- as Res.bind, for simp -/
def bnd (r : Res α) (f : α → En → Res β) : Res β := r.bind f
theorem bnd_ok {a : α} {e : En} {f : α → En → Res β} : bnd (.ok a e) f = f a e := rfl
theorem bnd_bad {f : α → En → Res β} : bnd .bad f = .bad := rfl
theorem bnd_congr {r r' : Res α} {f : α → En → Res β} (h : r = r') : bnd r f = bnd r' f := h ▸ rfl
def rof (o : Option α) (e : En) : Res α := Res.of o e
theorem rof_some {a : α} {e : En} : rof (some a) e = .ok a e := rfl
theorem rof_none {e : En} : rof (none : Option α) e = .bad := rfl
theorem asT_post {r : Res T} : asT (post (.val vw) r) = r := by cases r <;> rfl
theorem asOi_post {r : Res T} : asOi (post .bound r) = r.bind fun t env => Res.of ((intOf t).map some) env := by
  cases r with
  | ok t e =>
    show asOi (Res.of _ _) = Res.of _ _
    cases intOf t <;> rfl
  | _ => rfl
theorem asDs_post {r : Res T} : asDs (post .walk r) = r.bind fun t env => Res.of (seqOf t) env := by
  cases r with
  | ok t e =>
    show asDs (Res.of _ _) = Res.of _ _
    cases seqOf t <;> rfl
  | _ => rfl

/-! values -/
theorem ev_c {d : D} : ev cf (.c d) vw env = .ok (.im d) env := rfl
theorem ev_v {i : Nat} : ev cf (.v i) vw env = rdV vw i env := asT_post
def kOp2 (o : BOp) (x y : T) (env : En) : Res T := rof (binop o x y) env
def kOp (cf : CF) (o : BOp) (b : E) (x : T) (env : En) : Res T := bnd (ev cf b true env) (kOp2 o x)
theorem ev_op {o : BOp} {a b : E} : ev cf (.op o a b) vw env = bnd (ev cf a true env) (kOp cf o b) := asT_post
def cmpR (o : COp) (x y : T) : Option T := (cmpop o x y).map fun b => .im (.bl b)
def kCmp2 (o : COp) (x y : T) (env : En) : Res T := rof (cmpR o x y) env
def kCmp (cf : CF) (o : COp) (b : E) (x : T) (env : En) : Res T := bnd (ev cf b true env) (kCmp2 o x)
theorem ev_cmp {o : COp} {a b : E} : ev cf (.cmp o a b) vw env = bnd (ev cf a true env) (kCmp cf o b) := asT_post
def kChain4 (p : COp) (y z : T) (env : En) : Res T := rof (cmpR p y z) env
def kChain3 (cf : CF) (p : COp) (c : E) (y : T) : Bool → En → Res T
  | true, env => bnd (ev cf c true env) (kChain4 p y)
  | false, env => .ok (.im (.bl false)) env
def kChain2 (cf : CF) (o p : COp) (c : E) (x y : T) (env : En) : Res T := bnd (rof (cmpop o x y) env) (kChain3 cf p c y)
def kChain (cf : CF) (o p : COp) (b c : E) (x : T) (env : En) : Res T := bnd (ev cf b true env) (kChain2 cf o p c x)
theorem ev_chain {o p : COp} {a b c : E} : ev cf (.chain o p a b c) vw env = bnd (ev cf a true env) (kChain cf o p b c) := by
  refine Eq.trans asT_post ?_
  show (ev cf a true env).bind _ = (ev cf a true env).bind _
  congr 1
  funext x env
  show (ev cf b true env).bind _ = (ev cf b true env).bind _
  congr 1
  funext y env
  show (Res.of (cmpop o x y) env).bind _ = (Res.of (cmpop o x y) env).bind _
  congr 1
  funext k env
  cases k <;> rfl
def kNeg (x : T) (env : En) : Res T := rof ((intOf x).map fun i => .im (.int (-i))) env
theorem ev_neg {a : E} : ev cf (.neg a) vw env = bnd (ev cf a true env) kNeg := asT_post
/-- a test -/
def tst (cf : CF) (e : E) (env : En) : Res Bool := truthR (ev cf e true env)
def kTru (x : T) (env : En) : Res Bool := rof (truth x) env
theorem tst_eq {e : E} : tst cf e env = bnd (ev cf e true env) kTru := rfl
def kNo (b : Bool) (env : En) : Res T := .ok (.im (.bl (!b))) env
theorem ev_no {a : E} : ev cf (.no a) vw env = bnd (tst cf a env) kNo := asT_post
def kAn2 (cf : CF) (b : E) (vw : Bool) (x : T) : Bool → En → Res T
  | true, env => ev cf b vw env
  | false, env => .ok x env
def kAn (cf : CF) (b : E) (vw : Bool) (x : T) (env : En) : Res T := bnd (rof (truth x) env) (kAn2 cf b vw x)
theorem ev_an {a b : E} : ev cf (.an a b) vw env = bnd (ev cf a vw env) (kAn cf b vw) := by
  refine Eq.trans asT_post ?_
  show (ev cf a vw env).bind _ = (ev cf a vw env).bind _
  congr 1
  funext x env
  show (Res.of (truth x) env).bind _ = (Res.of (truth x) env).bind _
  congr 1
  funext k env
  cases k <;> rfl
def kOo2 (cf : CF) (b : E) (vw : Bool) (x : T) : Bool → En → Res T
  | true, env => .ok x env
  | false, env => ev cf b vw env
def kOo (cf : CF) (b : E) (vw : Bool) (x : T) (env : En) : Res T := bnd (rof (truth x) env) (kOo2 cf b vw x)
theorem ev_oo {a b : E} : ev cf (.oo a b) vw env = bnd (ev cf a vw env) (kOo cf b vw) := by
  refine Eq.trans asT_post ?_
  show (ev cf a vw env).bind _ = (ev cf a vw env).bind _
  congr 1
  funext x env
  show (Res.of (truth x) env).bind _ = (Res.of (truth x) env).bind _
  congr 1
  funext k env
  cases k <;> rfl
def kIfE (cf : CF) (a b : E) (vw : Bool) : Bool → En → Res T
  | true, env => ev cf a vw env
  | false, env => ev cf b vw env
theorem ev_ite {c a b : E} : ev cf (.ite c a b) vw env = bnd (tst cf c env) (kIfE cf a b vw) := by
  refine Eq.trans asT_post ?_
  show (tst cf c env).bind _ = (tst cf c env).bind _
  congr 1
  funext k env
  cases k <;> rfl
def mkTup (ds : List D) (env : En) : Res T := if ds.length ≤ SL then .ok (.im (.tup ds)) env else .bad
def mkLst (ds : List D) (env : En) : Res T := if ds.length ≤ SL then .ok (.nu (.l ds)) env else .bad
theorem ev_tup {es : E} : ev cf (.tup es) vw env = bnd (evs cf es env) mkTup := asT_post
theorem ev_lst {es : E} : ev cf (.lst es) vw env = bnd (evs cf es env) mkLst := asT_post
def kIx2 (x y : T) (env : En) : Res T := rof ((indexT x y).map .im) env
def kIx (cf : CF) (i : E) (x : T) (env : En) : Res T := bnd (ev cf i true env) (kIx2 x)
theorem ev_ix {a i : E} : ev cf (.ix a i) vw env = bnd (ev cf a true env) (kIx cf i) := asT_post
def kSl3 (x : T) (l h : Option Int) (env : En) : Res T := rof (sliceT x l h) env
def kSl2 (cf : CF) (hi : E) (x : T) (l : Option Int) (env : En) : Res T := bnd (evo cf hi env) (kSl3 x l)
def kSl (cf : CF) (lo hi : E) (x : T) (env : En) : Res T := bnd (evo cf lo env) (kSl2 cf hi x)
theorem ev_sl {a lo hi : E} : ev cf (.sl a lo hi) vw env = bnd (ev cf a true env) (kSl cf lo hi) := asT_post
def kRv (x : T) (env : En) : Res T := rof (revT x) env
theorem ev_rv {a : E} : ev cf (.rv a) vw env = bnd (ev cf a true env) kRv := asT_post
def kCall (cf : CF) (f : Nat) (as : List Ag) (env : En) : Res T := doCall cf f as env
theorem ev_call {f : Nat} {es : E} : ev cf (.call f es) vw env = bnd (eva cf es env) (kCall cf f) := asT_post
def kBi (b : BI) (as : List T) (env : En) : Res T := rof (bifn b as) env
theorem ev_bi {b : BI} {es : E} (h : isWalk b = false) : ev cf (.bi b es) vw env = bnd (evt cf es env) (kBi b) := by
  unfold ev
  rw [ev1, if_neg (by rw [h]; exact Bool.false_ne_true)]
  exact asT_post
theorem ev_len {es : E} : ev cf (.bi .len es) vw env = bnd (evt cf es env) (kBi .len) := ev_bi rfl
theorem ev_tuple {es : E} : ev cf (.bi .tuple es) vw env = bnd (evt cf es env) (kBi .tuple) := ev_bi rfl
theorem ev_list {es : E} : ev cf (.bi .list es) vw env = bnd (evt cf es env) (kBi .list) := ev_bi rfl
theorem ev_sorted {es : E} : ev cf (.bi .sorted es) vw env = bnd (evt cf es env) (kBi .sorted) := ev_bi rfl
theorem ev_sum {es : E} : ev cf (.bi .sum es) vw env = bnd (evt cf es env) (kBi .sum) := ev_bi rfl
theorem ev_repr {es : E} : ev cf (.bi .repr es) vw env = bnd (evt cf es env) (kBi .repr) := ev_bi rfl
theorem ev_isinst {es : E} : ev cf (.bi .isinst es) vw env = bnd (evt cf es env) (kBi .isinst) := ev_bi rfl
theorem ev_max {es : E} : ev cf (.bi .max es) vw env = bnd (evt cf es env) (kBi .max) := ev_bi rfl
theorem ev_min {es : E} : ev cf (.bi .min es) vw env = bnd (evt cf es env) (kBi .min) := ev_bi rfl
theorem ev_int {es : E} : ev cf (.bi .int es) vw env = bnd (evt cf es env) (kBi .int) := ev_bi rfl
theorem ev_set {es : E} : ev cf (.bi .set es) vw env = bnd (evt cf es env) (kBi .set) := ev_bi rfl
def kMtV2 (m : MT) (x : T) (ds : List D) (env : En) : Res T := rof (mtV m x ds) env
def kMtV (cf : CF) (m : MT) (es : E) (x : T) (env : En) : Res T := bnd (evs cf es env) (kMtV2 m x)
def kMtS (m : MT) (k : Nat) (ds : List D) (env : En) : Res T := mtSlot m k ds env
def mtAt (cf : CF) (m : MT) (k : Nat) (es : E) (env : En) : Bool → Res T
  | true => bnd (evs cf es env) (kMtS m k)
  | false => bnd (rdV true k env) (kMtV cf m es)
theorem ev_mt {m : MT} {k : Nat} {es : E} : ev cf (.mt m (.v k) es) vw env = mtAt cf m k es env (isMu env k m) := by
  refine Eq.trans asT_post ?_
  show (if isMu env k m = true then _ else _) = _
  cases h : isMu env k m <;> rfl
theorem ev_mtV {m : MT} {a es : E} (h : slotOf a = none) : ev cf (.mt m a es) vw env = bnd (ev cf a true env) (kMtV cf m es) := by
  unfold ev
  rw [ev1, h]
  exact asT_post
def lcIf (cf : CF) (ifs : E) (env : En) : Res Bool := if isNil ifs then .ok true env else tst cf ifs env
theorem lcIf_nil : lcIf cf .nil env = .ok true env := rfl
def kUnw (own : List Nat) (env0 : En) (t : T) (env1 : En) : Res T := .ok t (unwipeE env0 env1 own)
def kLc (cf : CF) (k : LK) (own : List Nat) (g : G) (ifs e : E) (xs : List D) (env0 : En) : Res T :=
  bnd (lcLoop k own g (lcIf cf ifs) (ev cf e false) xs [] env0) (kUnw own env0)
theorem ev_lc {k : LK} {own : List Nat} {g : G} {it ifs e : E} : ev cf (.lc k own g it ifs e) vw env = bnd (evi cf it env) (kLc cf k own g ifs e) := asT_post
def kCol (k : LK) (xs : List D) (env : En) : Res T := rof (colT k xs) env
theorem ev_col {k : LK} {it : E} : ev cf (.col k it) vw env = bnd (evi cf it env) (kCol k) := asT_post

/-! items -/
theorem evs_nil : evs cf .nil env = .ok [] env := rfl
def kEvs2 (x : T) (ds : List D) (env : En) : Res (List D) := rof (x.d.map (· :: ds)) env
def kEvs (cf : CF) (b : E) (x : T) (env : En) : Res (List D) := bnd (evs cf b env) (kEvs2 x)
theorem evs_cons {a b : E} : evs cf (.cons a b) env = bnd (ev cf a false env) (kEvs cf b) := by
  show asDs ((ev cf a false env).bind fun x env => (evs cf b env).bind fun ds env => Res.of (x.d.map fun d => .ds (d :: ds)) env) = _
  cases ev cf a false env with
  | ok x e =>
    show asDs ((evs cf b e).bind fun ds env => Res.of (x.d.map fun d => .ds (d :: ds)) env) = (evs cf b e).bind fun ds env => Res.of (x.d.map (· :: ds)) env
    cases evs cf b e with
    | ok ds e2 => cases x.d <;> rfl
    | _ => rfl
  | _ => rfl
theorem evt_nil : evt cf .nil env = .ok [] env := rfl
def kEvt2 (x : T) (ts : List T) (env : En) : Res (List T) := .ok (x :: ts) env
def kEvt (cf : CF) (b : E) (x : T) (env : En) : Res (List T) := bnd (evt cf b env) (kEvt2 x)
theorem evt_cons {a b : E} : evt cf (.cons a b) env = bnd (ev cf a true env) (kEvt cf b) := by
  show asTs ((ev cf a true env).bind fun x env => (evt cf b env).bind fun ts env => .ok (.ts (x :: ts)) env) = _
  cases ev cf a true env with
  | ok x e =>
    show asTs ((evt cf b e).bind fun ts env => .ok (.ts (x :: ts)) env) = (evt cf b e).bind fun ts env => .ok (x :: ts) env
    cases evt cf b e <;> rfl
  | _ => rfl
theorem evo_nil : evo cf .nil env = .ok none env := rfl
def kBd (t : T) (env : En) : Res (Option Int) := rof ((intOf t).map some) env
theorem evo_c {d : D} : evo cf (.c d) env = kBd (.im d) env := asOi_post
theorem evo_v {i : Nat} : evo cf (.v i) env = bnd (ev cf (.v i) true env) kBd := by
  rw [ev_v]
  exact asOi_post
theorem evo_op {o : BOp} {a b : E} : evo cf (.op o a b) env = bnd (ev cf (.op o a b) true env) kBd := by
  rw [ev_op]
  exact asOi_post
theorem evo_neg {a : E} : evo cf (.neg a) env = bnd (ev cf (.neg a) true env) kBd := by
  rw [ev_neg]
  exact asOi_post
theorem evo_call {f : Nat} {es : E} : evo cf (.call f es) env = bnd (ev cf (.call f es) true env) kBd := by
  rw [ev_call]
  exact asOi_post
theorem evo_bi {b : BI} {es : E} (h : isWalk b = false) : evo cf (.bi b es) env = bnd (ev cf (.bi b es) true env) kBd := by
  rw [ev_bi h]
  unfold evo
  rw [ev1, if_neg (by rw [h]; exact Bool.false_ne_true)]
  exact asOi_post
/-! what is walked -/
def kSeqOf (t : T) (env : En) : Res (List D) := rof (seqOf t) env
def kWalk (b : BI) (ds : List D) (env : En) : Res (List D) := rof (walkB b ds) env
theorem evi_bi {b : BI} {es : E} (h : isWalk b = true) : evi cf (.bi b es) env = bnd (evs cf es env) (kWalk b) := by
  unfold evi
  rw [ev1, if_pos h, if_pos (by rfl)]
  show asDs ((evs cf es env).bind fun ds env => Res.of ((walkB b ds).map .ds) env) = (evs cf es env).bind fun ds env => Res.of (walkB b ds) env
  cases evs cf es env with
  | ok ds e =>
    show asDs (Res.of ((walkB b ds).map .ds) e) = Res.of (walkB b ds) e
    cases walkB b ds <;> rfl
  | _ => rfl
theorem evi_range {es : E} : evi cf (.bi .range es) env = bnd (evs cf es env) (kWalk .range) := evi_bi rfl
theorem evi_zip {es : E} : evi cf (.bi .zip es) env = bnd (evs cf es env) (kWalk .zip) := evi_bi rfl
theorem evi_enum {es : E} : evi cf (.bi .enum es) env = bnd (evs cf es env) (kWalk .enum) := evi_bi rfl
theorem evi_rev {es : E} : evi cf (.bi .rev es) env = bnd (evs cf es env) (kWalk .rev) := evi_bi rfl
/-- what is walked is a value -/
def plainE : E → Bool
  | .bi b _ => !isWalk b
  | .nil => false
  | .cons _ _ => false
  | _ => true
theorem evi_of {e : E} (h : plainE e = true) : evi cf e env = bnd (ev cf e (match e with | .an _ _ => false | .oo _ _ => false | .ite _ _ _ => false | .v _ => false | _ => true) env) kSeqOf := by
  cases e with
  | nil => cases h
  | cons _ _ => cases h
  | bi b es =>
    have hb : isWalk b = false := by
      have h' : (!isWalk b) = true := h
      cases hw : isWalk b with
      | true => rw [hw] at h'; cases h'
      | false => rfl
    rw [ev_bi hb]
    unfold evi
    rw [ev1, if_neg (by rw [hb]; exact Bool.false_ne_true)]
    exact asDs_post
  | c d => exact asDs_post
  | v i => rw [ev_v]; exact asDs_post
  | op _ _ _ => rw [ev_op]; exact asDs_post
  | cmp _ _ _ => rw [ev_cmp]; exact asDs_post
  | chain o p a b c => 
    have := ev_chain (cf := cf) (env := env) (vw := true) (o := o) (p := p) (a := a) (b := b) (c := c)
    unfold ev at this ⊢
    show asDs (post .walk _) = (asT (post (.val true) _)).bind _
    rw [asDs_post, asT_post]
    rfl
  | neg _ => rw [ev_neg]; exact asDs_post
  | no _ => rw [ev_no]; exact asDs_post
  | an a b =>
    unfold ev
    show asDs (post .walk _) = (asT (post (.val false) _)).bind _
    rw [asDs_post, asT_post]
    rfl
  | oo a b =>
    unfold ev
    show asDs (post .walk _) = (asT (post (.val false) _)).bind _
    rw [asDs_post, asT_post]
    rfl
  | ite _ _ _ =>
    unfold ev
    show asDs (post .walk _) = (asT (post (.val false) _)).bind _
    rw [asDs_post, asT_post]
    rfl
  | tup _ => rw [ev_tup]; exact asDs_post
  | lst _ => rw [ev_lst]; exact asDs_post
  | ix _ _ => rw [ev_ix]; exact asDs_post
  | sl _ _ _ => rw [ev_sl]; exact asDs_post
  | rv _ => rw [ev_rv]; exact asDs_post
  | call _ _ => rw [ev_call]; exact asDs_post
  | mt _ _ _ =>
    unfold ev
    show asDs (post .walk _) = (asT (post (.val true) _)).bind _
    rw [asDs_post, asT_post]
    rfl
  | lc _ _ _ _ _ _ => rw [ev_lc]; exact asDs_post
  | col _ _ => rw [ev_col]; exact asDs_post
theorem evi_v {i : Nat} : evi cf (.v i) env = bnd (rdV false i env) kSeqOf := (evi_of rfl).trans (by rw [ev_v])
theorem evi_c {d : D} : evi cf (.c d) env = kSeqOf (.im d) env := evi_of rfl
theorem evi_ix {a i : E} : evi cf (.ix a i) env = bnd (ev cf (.ix a i) true env) kSeqOf := evi_of rfl
theorem evi_sl {a l h : E} : evi cf (.sl a l h) env = bnd (ev cf (.sl a l h) true env) kSeqOf := evi_of rfl
theorem evi_tup {a : E} : evi cf (.tup a) env = bnd (ev cf (.tup a) true env) kSeqOf := evi_of rfl
theorem evi_lst {a : E} : evi cf (.lst a) env = bnd (ev cf (.lst a) true env) kSeqOf := evi_of rfl
theorem evi_call {f : Nat} {a : E} : evi cf (.call f a) env = bnd (ev cf (.call f a) true env) kSeqOf := evi_of rfl
theorem evi_op {o : BOp} {a b : E} : evi cf (.op o a b) env = bnd (ev cf (.op o a b) true env) kSeqOf := evi_of rfl
theorem evi_rv {a : E} : evi cf (.rv a) env = bnd (ev cf (.rv a) true env) kSeqOf := evi_of rfl
theorem evi_lc {k : LK} {o : List Nat} {g : G} {i f e : E} : evi cf (.lc k o g i f e) env = bnd (ev cf (.lc k o g i f e) true env) kSeqOf := evi_of rfl
theorem evi_sorted {es : E} : evi cf (.bi .sorted es) env = bnd (ev cf (.bi .sorted es) true env) kSeqOf := evi_of rfl
/-! arguments -/
theorem eva_nil : eva cf .nil env = .ok [] env := rfl
def kAg2 (x : T) (as : List Ag) (env : En) : Res (List Ag) := .ok (⟨ofT x, none⟩ :: as) env
def kAg (cf : CF) (b : E) (x : T) (env : En) : Res (List Ag) := bnd (eva cf b env) (kAg2 x)
def kAgD (d : D) (as : List Ag) (env : En) : Res (List Ag) := .ok (⟨.im d, none⟩ :: as) env
def agM2 (i : Nat) (as : List Ag) (env : En) : Option W → Res (List Ag)
  | some (.mu _ o) => .ok (⟨.mu true o, some i⟩ :: as) env
  | _ => .bad
def kAgM (i : Nat) (as : List Ag) (env : En) : Res (List Ag) := agM2 i as env env[i]?
def agV (cf : CF) (i : Nat) (b : E) (env : En) : Option W → Res (List Ag)
  | some (.mu _ _) => bnd (eva cf b env) (kAgM i)
  | some (.im d) => bnd (eva cf b env) (kAgD d)
  | some (.fz xs) => bnd (eva cf b env) (kAgD (.lst xs))
  | _ => .bad
theorem eva_v {i : Nat} {b : E} : eva cf (.cons (.v i) b) env = agV cf i b env env[i]? := by
  have : eva cf (.cons (.v i) b) env = agSlot i env fun env => eva cf b env := by
    show asAg ((agSlot i env fun env => asAg (ev1 cf b .args env)).bind fun as env => .ok (.ag as) env) = _
    show asAg ((agSlot i env fun env => eva cf b env).bind fun as env => .ok (.ag as) env) = _
    cases agSlot i env fun env => eva cf b env <;> rfl
  rw [this]
  unfold agSlot
  cases h : env[i]? with
  | none => rfl
  | some w =>
    cases w with
    | un => rfl
    | im d => rfl
    | fz xs => rfl
    | mu c o =>
      show (eva cf b env).bind _ = (eva cf b env).bind (kAgM i)
      cases eva cf b env with
      | ok as e =>
        show (match e[i]? with | some (W.mu b o') => Res.ok (⟨W.mu true o', some i⟩ :: as) e | _ => Res.bad) = agM2 i as e e[i]?
        cases e[i]? with
        | none => rfl
        | some w => cases w <;> rfl
      | _ => rfl
theorem eva_e {a b : E} (h : slotOf a = none) : eva cf (.cons a b) env = bnd (ev cf a false env) (kAg cf b) := by
  unfold eva
  rw [ev1]
  show asAg (match slotOf a with | some i => _ | none => _) = _
  rw [h]
  show asAg ((ev cf a false env).bind fun x env => (eva cf b env).bind fun as env => .ok (.ag (⟨ofT x, none⟩ :: as)) env) = (ev cf a false env).bind fun x env => (eva cf b env).bind fun as env => .ok (⟨ofT x, none⟩ :: as) env
  cases ev cf a false env with
  | ok x e =>
    show asAg ((eva cf b e).bind fun as env => .ok (.ag (⟨ofT x, none⟩ :: as)) env) = (eva cf b e).bind fun as env => .ok (⟨ofT x, none⟩ :: as) env
    cases eva cf b e <;> rfl
  | _ => rfl
theorem eva_c {d : D} {b : E} : eva cf (.cons (.c d) b) env = bnd (eva cf b env) (kAg2 (.im d)) := eva_e rfl
theorem eva_op {o : BOp} {x y b : E} : eva cf (.cons (.op o x y) b) env = bnd (ev cf (.op o x y) false env) (kAg cf b) := eva_e rfl
theorem eva_neg {x b : E} : eva cf (.cons (.neg x) b) env = bnd (ev cf (.neg x) false env) (kAg cf b) := eva_e rfl
theorem eva_ix {x y b : E} : eva cf (.cons (.ix x y) b) env = bnd (ev cf (.ix x y) false env) (kAg cf b) := eva_e rfl
theorem eva_sl {x y z b : E} : eva cf (.cons (.sl x y z) b) env = bnd (ev cf (.sl x y z) false env) (kAg cf b) := eva_e rfl
theorem eva_rv {x b : E} : eva cf (.cons (.rv x) b) env = bnd (ev cf (.rv x) false env) (kAg cf b) := eva_e rfl
theorem eva_tup {x b : E} : eva cf (.cons (.tup x) b) env = bnd (ev cf (.tup x) false env) (kAg cf b) := eva_e rfl
theorem eva_lst {x b : E} : eva cf (.cons (.lst x) b) env = bnd (ev cf (.lst x) false env) (kAg cf b) := eva_e rfl
theorem eva_call {f : Nat} {x b : E} : eva cf (.cons (.call f x) b) env = bnd (ev cf (.call f x) false env) (kAg cf b) := eva_e rfl
theorem eva_bi {f : BI} {x b : E} : eva cf (.cons (.bi f x) b) env = bnd (ev cf (.bi f x) false env) (kAg cf b) := eva_e rfl
theorem eva_lc {k : LK} {o : List Nat} {g : G} {i f e b : E} : eva cf (.cons (.lc k o g i f e) b) env = bnd (ev cf (.lc k o g i f e) false env) (kAg cf b) := eva_e rfl
theorem eva_col {k : LK} {x b : E} : eva cf (.cons (.col k x) b) env = bnd (ev cf (.col k x) false env) (kAg cf b) := eva_e rfl
theorem eva_ite {x y z b : E} : eva cf (.cons (.ite x y z) b) env = bnd (ev cf (.ite x y z) false env) (kAg cf b) := eva_e rfl
theorem eva_mt {m : MT} {x y b : E} : eva cf (.cons (.mt m x y) b) env = bnd (ev cf (.mt m x y) false env) (kAg cf b) := eva_e rfl
/-- what comes of a call -/
def dcBack (t : T) : Option En → Res T
  | some e => .ok t e
  | none => .bad
def dcAt (as : List Ag) (env : En) : Option (Option (T × List W)) → Res T
  | some (some (t, ws)) => dcBack t (giveBack as ws env)
  | _ => .bad
def dcIf (cf : CF) (f : Nat) (as : List Ag) (env : En) : Bool → Res T
  | true => dcAt as env (cf f (as.map (·.w)))
  | false => .bad
theorem kCall_eq {f : Nat} {as : List Ag} : kCall cf f as env = dcIf cf f as env (agsOk as []) := by
  unfold kCall doCall
  cases agsOk as [] with
  | false => rfl
  | true =>
    show (match cf f (as.map (·.w)) with | some (some (t, ws)) => _ | _ => _) = dcAt as env (cf f (as.map (·.w)))
    cases cf f (as.map (·.w)) with
    | none => rfl
    | some o =>
      cases o with
      | none => rfl
      | some p =>
        obtain ⟨t, ws⟩ := p
        show (Res.of ((giveBack as ws env).map fun e => e) env |>.bind fun e _ => .ok t e) = dcBack t (giveBack as ws env)
        cases giveBack as ws env <;> rfl
theorem dcIf_t {f : Nat} {as : List Ag} : dcIf cf f as env true = dcAt as env (cf f (as.map (·.w))) := rfl
theorem dcAt_eq {as : List Ag} {t : T} {ws : List W} : dcAt as env (some (some (t, ws))) = dcBack t (giveBack as ws env) := rfl
theorem dcBack_eq {t : T} {e : En} : dcBack t (some e) = .ok t e := rfl

/-! statements -/
theorem sx_skip : sx cf .skip env = .ok .nx env := rfl
def kSeq (cf : CF) (b : S) : Fl → En → Res Fl
  | .nx, env => sx cf b env
  | .rt t, env => .ok (.rt t) env
  | .bk, env => .ok .bk env
  | .ct, env => .ok .ct env
theorem sx_seq {a b : S} : sx cf (.seq a b) env = bnd (sx cf a env) (kSeq cf b) := by
  show (sx cf a env).bind _ = (sx cf a env).bind _
  congr 1
  funext f e
  cases f <;> rfl
theorem kSeq_nx {b : S} : kSeq cf b .nx env = sx cf b env := rfl
theorem kSeq_rt {b : S} {t : T} : kSeq cf b (.rt t) env = .ok (.rt t) env := rfl
theorem kSeq_bk {b : S} : kSeq cf b .bk env = .ok .bk env := rfl
theorem kSeq_ct {b : S} : kSeq cf b .ct env = .ok .ct env := rfl
def putF : Option En → Res Fl
  | some e => .ok .nx e
  | none => .bad
def kPut (i : Nat) (t : T) (env : En) : Res Fl := putF (put env i t)
theorem sx_asgN {i : Nat} {e : E} : sx cf (.asg (.n i) e) env = bnd (ev cf e false env) (kPut i) := by
  show (ev cf e false env).bind _ = (ev cf e false env).bind _
  congr 1
  funext t env
  show (Res.of ((put env i t).map fun env => env) env |>.bind fun e2 _ => .ok .nx e2) = putF (put env i t)
  cases put env i t <;> rfl
def kGive (g : G) : T → En → Res Fl
  | .im d, env => putF (give g d env)
  | .nu (.l xs), env => putF (give g (.lst xs) env)
  | .nu (.s _), _ => .bad
theorem sx_asgT {gs : G} {e : E} : sx cf (.asg (.t gs) e) env = bnd (ev cf e false env) (kGive (.t gs)) := by
  show (ev cf e false env).bind _ = (ev cf e false env).bind _
  congr 1
  funext t env
  cases t with
  | im d =>
    show ((Res.of (give (.t gs) d env) env).bind fun e2 _ => .ok .nx e2) = putF (give (.t gs) d env)
    cases give (.t gs) d env <;> rfl
  | nu o =>
    cases o with
    | l xs =>
      show ((Res.of (give (.t gs) (.lst xs) env) env).bind fun e2 _ => .ok .nx e2) = putF (give (.t gs) (.lst xs) env)
      cases give (.t gs) (.lst xs) env <;> rfl
    | s xs => rfl
def kSix2 (k : Nat) (t j : T) (env : En) : Res Fl := storeAt k t j env
def sixAt (cf : CF) (k : Nat) (i : E) (t : T) (env : En) : Bool → Res Fl
  | true => bnd (ev cf i true env) (kSix2 k t)
  | false => .bad
def kSix (cf : CF) (k : Nat) (i : E) (t : T) (env : En) : Res Fl := sixAt cf k i t env (isMu env k .append)
theorem sx_six {k : Nat} {i e : E} : sx cf (.six k i e) env = bnd (ev cf e false env) (kSix cf k i) := by
  show (ev cf e false env).bind _ = (ev cf e false env).bind _
  congr 1
  funext t env
  show (if isMu env k .append = true then _ else _) = sixAt cf k i t env (isMu env k .append)
  cases isMu env k .append <;> rfl
def kSwp5 (cf : CF) (k : Nat) (j : E) (y : T) (f : Fl) (env : En) : Res Fl := sixAt cf k j y env (isMu env k .append)
def kSwp4 (cf : CF) (k : Nat) (j : E) (x y : T) (p : T) (env : En) : Res Fl := bnd (storeAt k x p env) (kSwp5 cf k j y)
def swpAt (cf : CF) (k : Nat) (i j : E) (x y : T) (env : En) : Bool → Res Fl
  | true => bnd (ev cf i true env) (kSwp4 cf k j x y)
  | false => .bad
def kSwp2 (cf : CF) (k : Nat) (i j : E) (x y : T) (env : En) : Res Fl := swpAt cf k i j x y env (isMu env k .append)
def kSwp (cf : CF) (k : Nat) (i j b : E) (x : T) (env : En) : Res Fl := bnd (ev cf b false env) (kSwp2 cf k i j x)
theorem sx_swp {k : Nat} {i j a b : E} : sx cf (.swp k i j a b) env = bnd (ev cf a false env) (kSwp cf k i j b) := by
  show (ev cf a false env).bind _ = (ev cf a false env).bind _
  congr 1
  funext x env
  show (ev cf b false env).bind _ = (ev cf b false env).bind _
  congr 1
  funext y env
  show (if isMu env k .append = true then _ else _) = swpAt cf k i j x y env (isMu env k .append)
  cases isMu env k .append with
  | false => rfl
  | true =>
    show (ev cf i true env).bind _ = (ev cf i true env).bind _
    congr 1
    funext p env
    show (storeAt k x p env).bind _ = (storeAt k x p env).bind _
    congr 1
    funext f env
    show (if isMu env k .append = true then _ else _) = sixAt cf k j y env (isMu env k .append)
    cases isMu env k .append <;> rfl
def augP (k : Nat) (env : En) : Option Int → Res Fl
  | some n => putF (put env k (.im (.int n)))
  | none => .bad
def kAug2 (k : Nat) (o : BOp) (x y : T) (env : En) : Res Fl := match intOf x, intOf y with
  | some i, some j => augP k env (augI o i j)
  | _, _ => .bad
def kAug (cf : CF) (k : Nat) (o : BOp) (e : E) (x : T) (env : En) : Res Fl := bnd (ev cf e true env) (kAug2 k o x)
theorem sx_aug {k : Nat} {o : BOp} {e : E} : sx cf (.aug k o e) env = bnd (rdV true k env) (kAug cf k o e) := by
  show (rdV true k env).bind _ = (rdV true k env).bind _
  congr 1
  funext x env
  show (ev cf e true env).bind _ = (ev cf e true env).bind _
  congr 1
  funext y env
  unfold kAug2
  cases intOf x with
  | none => rfl
  | some i =>
    cases intOf y with
    | none => rfl
    | some j =>
      show (match augI o i j with | some n => _ | none => _) = augP k env (augI o i j)
      cases augI o i j with
      | none => rfl
      | some n =>
        show ((Res.of (put env k (.im (.int n))) env).bind fun e2 _ => .ok .nx e2) = putF _
        cases put env k (.im (.int n)) <;> rfl
theorem kAug2_int {k : Nat} {o : BOp} {i j : Int} : kAug2 k o (.im (.int i)) (.im (.int j)) env = augP k env (augI o i j) := rfl
def kEx (t : T) (env : En) : Res Fl := .ok .nx env
theorem sx_ex {e : E} : sx cf (.ex e) env = bnd (ev cf e true env) kEx := rfl
def kRet (t : T) (env : En) : Res Fl := .ok (.rt t) env
def retV (i : Nat) (env : En) : Option W → Res Fl
  | some (.mu false o) => .ok (.rt (.nu o)) (setW env i .un)
  | _ => bnd (rdV false i env) kRet
theorem sx_retv {i : Nat} : sx cf (.ret (.v i)) env = retV i env env[i]? := by
  show (match env[i]? with | some (.mu false o) => _ | _ => _) = _
  cases env[i]? with
  | none => rfl
  | some w =>
    cases w with
    | mu b o => cases b <;> rfl
    | _ => rfl
theorem sx_ret {e : E} (h : slotOf e = none) : sx cf (.ret e) env = bnd (ev cf e false env) kRet := by
  cases e <;> first | rfl | (cases h; done)
def kIte (cf : CF) (a b : S) : Bool → En → Res Fl
  | true, env => sx cf a env
  | false, env => sx cf b env
theorem sx_ite {c : E} {a b : S} : sx cf (.ite c a b) env = bnd (tst cf c env) (kIte cf a b) := by
  show (tst cf c env).bind _ = (tst cf c env).bind _
  congr 1
  funext k env
  cases k <;> rfl
theorem kIte_t {a b : S} : kIte cf a b true env = sx cf a env := rfl
theorem kIte_f {a b : S} : kIte cf a b false env = sx cf b env := rfl
def kFor (cf : CF) (g : G) (b : S) (xs : List D) (env : En) : Res Fl := forLoop g (sx cf b) xs env
theorem sx_for {g : G} {it : E} {b : S} : sx cf (.for g it b) env = bnd (evi cf it env) (kFor cf g b) := rfl
theorem sx_wh {c : E} {b : S} : sx cf (.wh c b) env = whLoop (tst cf c) (sx cf b) WF env := rfl
theorem sx_brk : sx cf .brk env = .ok .bk env := rfl
theorem sx_cont : sx cf .cont env = .ok .ct env := rfl
end
end SwP

set_option linter.all false
set_option maxRecDepth 100000
/-! Rules for simp: slots, operators, calls; what a run ends in. -/
namespace SwP
open Sw
section
variable {α β : Type} {cf : CF} {env e1 : En} {vw : Bool}
/-- a slot that may be stored -/
def fr : W → Bool
  | .mu true _ => false
  | .fz _ => false
  | _ => true
theorem fr_im {d : D} : fr (.im d) = true := rfl
theorem fr_un : fr .un = true := rfl
theorem fr_mu {o : O} : fr (.mu false o) = true := rfl
theorem canSet_zero {w : W} : canSet (w :: env) 0 = fr w := by
  cases w with
  | mu b o => cases b <;> rfl
  | _ => rfl
theorem canSet_succ {w : W} {i : Nat} : canSet (w :: env) (i + 1) = canSet env i := rfl
def putIf (env : En) (i : Nat) (w : W) : Bool → Option En
  | true => some (setW env i w)
  | false => none
theorem put_eq {i : Nat} {t : T} : put env i t = putIf env i (ofT t) (canSet env i) := by
  unfold put
  cases canSet env i <;> rfl
theorem putIf_t {i : Nat} {w : W} : putIf env i w true = some (setW env i w) := rfl
theorem putF_s {e : En} : putF (some e) = .ok .nx e := rfl
theorem setW_zero {w v : W} : setW (w :: env) 0 v = v :: env := rfl
theorem setW_succ {w v : W} {i : Nat} : setW (w :: env) (i + 1) v = w :: setW env i v := rfl
theorem ofT_im {d : D} : ofT (.im d) = .im d := rfl
theorem ofT_nu {o : O} : ofT (.nu o) = .mu false o := rfl
def rdW (vw : Bool) (i : Nat) (env : En) : Option W → Res T
  | some (.im d) => .ok (.im d) env
  | some (.fz xs) => .ok (.im (.lst xs)) env
  | some (.mu b (.l xs)) => if vw then .ok (.nu (.l xs)) env else .ok (.im (.lst xs)) (setW env i (if b then .fz xs else .im (.lst xs)))
  | some (.mu _ (.s xs)) => if vw then .ok (.nu (.s xs)) env else .bad
  | _ => .bad
theorem rdV_eq {i : Nat} : rdV vw i env = rdW vw i env env[i]? := by
  unfold rdV
  cases env[i]? with
  | none => rfl
  | some w =>
    cases w with
    | mu b o => cases o <;> rfl
    | _ => rfl
theorem rdW_im {i : Nat} {d : D} : rdW vw i env (some (.im d)) = .ok (.im d) env := rfl
theorem rdW_fz {i : Nat} {d : List D} : rdW vw i env (some (.fz d)) = .ok (.im (.lst d)) env := rfl
theorem rdW_l {i : Nat} {b : Bool} {xs : List D} : rdW true i env (some (.mu b (.l xs))) = .ok (.nu (.l xs)) env := rfl
theorem rdW_s {i : Nat} {b : Bool} {xs : List Int} : rdW true i env (some (.mu b (.s xs))) = .ok (.nu (.s xs)) env := rfl
theorem rdW_kf {i : Nat} {xs : List D} : rdW false i env (some (.mu false (.l xs))) = .ok (.im (.lst xs)) (setW env i (.im (.lst xs))) := rfl
theorem rdW_kt {i : Nat} {xs : List D} : rdW false i env (some (.mu true (.l xs))) = .ok (.im (.lst xs)) (setW env i (.fz xs)) := rfl
def isMuW (m : MT) : Option W → Bool
  | some (.mu _ (.l _)) => match m with | .add => false | _ => true
  | some (.mu _ (.s _)) => match m with | .add => true | _ => false
  | _ => false
theorem isMu_eq {k : Nat} {m : MT} : isMu env k m = isMuW m env[k]? := by
  unfold isMu
  cases env[k]? with
  | none => rfl
  | some w =>
    cases w with
    | mu b o => cases o <;> rfl
    | _ => rfl
theorem isMuW_l {b : Bool} {xs : List D} : isMuW .append (some (.mu b (.l xs))) = true := rfl
theorem isMuW_pop {b : Bool} {xs : List D} : isMuW .pop (some (.mu b (.l xs))) = true := rfl
theorem isMuW_ix {b : Bool} {xs : List D} : isMuW .index (some (.mu b (.l xs))) = true := rfl
theorem isMuW_lix {b : Bool} {xs : List D} : isMuW .lindex (some (.mu b (.l xs))) = true := rfl
theorem isMuW_add {b : Bool} {xs : List Int} : isMuW .add (some (.mu b (.s xs))) = true := rfl
theorem isMuW_im {m : MT} {d : D} : isMuW m (some (.im d)) = false := rfl
theorem isMuW_fz {m : MT} {d : List D} : isMuW m (some (.fz d)) = false := rfl
theorem mtAt_t {m : MT} {k : Nat} {es : E} : mtAt cf m k es env true = bnd (evs cf es env) (kMtS m k) := rfl
theorem mtAt_f {m : MT} {k : Nat} {es : E} : mtAt cf m k es env false = bnd (rdV true k env) (kMtV cf m es) := rfl
def mtW (m : MT) (k : Nat) (ds : List D) (env : En) : Option W → Res T
  | some (.mu b o) => match mtO m o ds with
    | some (d, o') => .ok (.im d) (setW env k (.mu b o'))
    | none => Res.of (mtV m (.nu o) ds) env
  | _ => .bad
theorem kMtS_eq {m : MT} {k : Nat} {ds : List D} : kMtS m k ds env = mtW m k ds env env[k]? := rfl
theorem mt_append {k : Nat} {d : D} {b : Bool} {xs : List D} (h : xs.length < 16777216) : mtW .append k [d] env (some (.mu b (.l xs))) = .ok (.im .non) (setW env k (.mu b (.l (xs ++ [d])))) := by
  have hSL : SL = 16777216 := rfl
  unfold mtW mtO
  simp only [hSL, h, if_true]
theorem mt_popAt {k : Nat} {b : Bool} {xs : List D} {n : Nat} (h : xs.length ≤ 16777216) (hn : n < xs.length) : mtW .pop k [.int (n : Int)] env (some (.mu b (.l xs))) = .ok (.im xs[n]) (setW env k (.mu b (.l (xs.eraseIdx n)))) := by
  have hSL : SL = 16777216 := rfl
  have h1 : (0 : Int) ≤ (n : Int) := Int.natCast_nonneg n
  have h2 : ((n : Int) < (xs.length : Int)) := by omega
  unfold mtW mtO ixE
  simp [hSL, h, h1, h2, hn]
theorem mtV_ix {d : D} {xs : List D} {n : Nat} (h1 : d.pl = true) (h2 : xs.all D.pl = true) (hf : findIx d xs = some n) : mtV .index (.im (.tup xs)) [d] = some (.im (.int (n : Nat))) := by
  unfold mtV
  show (if d.pl && xs.all D.pl then _ else none) = _
  rw [h1, h2, hf]
  rfl
theorem mt_lix {k : Nat} {b : Bool} {d : D} {xs : List D} {n : Nat} (h1 : d.pl = true) (h2 : xs.all D.pl = true) (hf : findIx d xs = some n) : mtW .lindex k [d] env (some (.mu b (.l xs))) = .ok (.im (.int (n : Nat))) (setW env k (.mu b (.l xs))) := by
  have e : mtO .lindex (.l xs) [d] = some (.int (n : Nat), .l xs) := by
    show (if d.pl && xs.all D.pl then (findIx d xs).map fun k => (D.int k, O.l xs) else none) = _
    rw [h1, h2, hf]
    rfl
  show (match mtO .lindex (.l xs) [d] with
    | some (d, o') => Res.ok (T.im d) (setW env k (W.mu b o'))
    | none => Res.of (mtV MT.lindex (T.nu (.l xs)) [d]) env) = _
  rw [e]
theorem mt_pop {k : Nat} {b : Bool} {xs : List D} {x : D} : mtW .pop k [] env (some (.mu b (.l (xs ++ [x])))) = .ok (.im x) (setW env k (.mu b (.l xs))) := by
  unfold mtW mtO
  simp
def storeW (k : Nat) (env : En) (n : Int) (d : D) : Option W → Res Fl
  | some (.mu b (.l xs)) => match ixE xs.length n with
    | some p => .ok .nx (setW env k (.mu b (.l (xs.set p d))))
    | none => .bad
  | _ => .bad
theorem storeAt_eq {k : Nat} {t : T} {n : Int} {d : D} (h : t.d = some d) : storeAt k t (.im (.int n)) env = storeW k env n d env[k]? := by
  unfold storeAt
  rw [h]
  show (match env[k]? with | some (.mu b (.l xs)) => _ | _ => _) = _
  cases env[k]? with
  | none => rfl
  | some w =>
    cases w with
    | mu b o =>
      cases o with
      | l xs => rfl
      | s xs => rfl
    | _ => rfl
theorem storeAt_im {k : Nat} {n : Int} {d : D} : storeAt k (.im d) (.im (.int n)) env = storeW k env n d env[k]? := storeAt_eq rfl
theorem storeW_l {k : Nat} {n : Nat} {d : D} {b : Bool} {xs : List D} (h : n < xs.length) : storeW k env (n : Int) d (some (.mu b (.l xs))) = .ok .nx (setW env k (.mu b (.l (xs.set n d)))) := by
  have h1 : (0 : Int) ≤ (n : Int) := Int.natCast_nonneg n
  have h2 : ((n : Int) < (xs.length : Int)) := by omega
  unfold storeW ixE
  simp [h1, h2]
theorem storeW_0 {k : Nat} {d x : D} {b : Bool} {xs : List D} : storeW k env 0 d (some (.mu b (.l (x :: xs)))) = .ok .nx (setW env k (.mu b (.l (d :: xs)))) := by
  have := storeW_l (k := k) (env := env) (n := 0) (d := d) (b := b) (xs := x :: xs) (by simp)
  simpa using this
theorem storeW_1 {k : Nat} {d x y : D} {b : Bool} {xs : List D} : storeW k env 1 d (some (.mu b (.l (x :: y :: xs)))) = .ok .nx (setW env k (.mu b (.l (x :: d :: xs)))) := by
  have := storeW_l (k := k) (env := env) (n := 1) (d := d) (b := b) (xs := x :: y :: xs) (by simp)
  simpa using this
theorem sixAt_t {k : Nat} {i : E} {t : T} : sixAt cf k i t env true = bnd (ev cf i true env) (kSix2 k t) := rfl
theorem swpAt_t {k : Nat} {i j : E} {x y : T} : swpAt cf k i j x y env true = bnd (ev cf i true env) (kSwp4 cf k j x y) := rfl
theorem augP_s {k : Nat} {n : Int} : augP k env (some n) = putF (put env k (.im (.int n))) := rfl
theorem aug_add {i j : Int} : augI .add i j = some (i + j) := rfl
theorem aug_sub {i j : Int} : augI .sub i j = some (i - j) := rfl
theorem aug_mul {i j : Int} (h : mulOk i j = true) : augI .mul i j = some (i * j) := by
  unfold augI
  simp only [h, if_true]
theorem retV_m {i : Nat} {o : O} : retV i env (some (.mu false o)) = .ok (.rt (.nu o)) (setW env i .un) := rfl
theorem retV_im {i : Nat} {d : D} : retV i env (some (.im d)) = bnd (rdV false i env) kRet := rfl
theorem retV_mt {i : Nat} {o : O} : retV i env (some (.mu true o)) = bnd (rdV false i env) kRet := rfl
theorem retV_fz {i : Nat} {o : List D} : retV i env (some (.fz o)) = bnd (rdV false i env) kRet := rfl
/-! arguments -/
theorem agV_mu {i : Nat} {b : E} {c : Bool} {o : O} : agV cf i b env (some (.mu c o)) = bnd (eva cf b env) (kAgM i) := rfl
theorem agV_im {i : Nat} {b : E} {d : D} : agV cf i b env (some (.im d)) = bnd (eva cf b env) (kAgD d) := rfl
theorem agV_fz {i : Nat} {b : E} {d : List D} : agV cf i b env (some (.fz d)) = bnd (eva cf b env) (kAgD (.lst d)) := rfl
theorem agM2_mu {i : Nat} {as : List Ag} {c : Bool} {o : O} : agM2 i as env (some (.mu c o)) = .ok (⟨.mu true o, some i⟩ :: as) env := rfl
theorem agsOk_nil {s : List Nat} : agsOk [] s = true := rfl
theorem agsOk_n {s : List Nat} {w : W} {r : List Ag} : agsOk (⟨w, none⟩ :: r) s = agsOk r s := rfl
theorem agsOk_s {s : List Nat} {w : W} {i : Nat} {r : List Ag} : agsOk (⟨w, some i⟩ :: r) s = (!s.contains i && agsOk r (i :: s)) := rfl
theorem ws_nil : ([] : List Ag).map (·.w) = [] := rfl
theorem ws_cons {w : W} {f : Option Nat} {r : List Ag} : ((⟨w, f⟩ :: r) : List Ag).map (·.w) = w :: r.map (·.w) := rfl
theorem gb_nil {ws : List W} : giveBack [] ws env = some env := rfl
theorem gb_n {w v : W} {r : List Ag} {ws : List W} : giveBack (⟨w, none⟩ :: r) (v :: ws) env = giveBack r ws env := rfl
def gbW (r : List Ag) (ws : List W) (env : En) (i : Nat) (v : W) : Option W → Option En
  | some (.mu b _) => match v with
    | .mu _ o => giveBack r ws (setW env i (.mu b o))
    | .fz xs => giveBack r ws (setW env i (if b then .fz xs else .im (.lst xs)))
    | _ => none
  | _ => none
theorem gb_s {w v : W} {i : Nat} {r : List Ag} {ws : List W} : giveBack (⟨w, some i⟩ :: r) (v :: ws) env = gbW r ws env i v env[i]? := by
  show (match v, env[i]? with | .mu _ o, some (.mu b _) => _ | .fz xs, some (.mu b _) => _ | _, _ => none) = _
  cases env[i]? with
  | none => cases v <;> rfl
  | some u => cases u <;> cases v <;> rfl
theorem gbW_m {r : List Ag} {ws : List W} {i : Nat} {b c : Bool} {o o' : O} : gbW r ws env i (.mu c o) (some (.mu b o')) = giveBack r ws (setW env i (.mu b o)) := rfl
theorem gbW_fT {r : List Ag} {ws : List W} {i : Nat} {xs : List D} {o' : O} : gbW r ws env i (.fz xs) (some (.mu true o')) = giveBack r ws (setW env i (.fz xs)) := rfl
theorem gbW_fF {r : List Ag} {ws : List W} {i : Nat} {xs : List D} {o' : O} : gbW r ws env i (.fz xs) (some (.mu false o')) = giveBack r ws (setW env i (.im (.lst xs))) := rfl
/-! targets -/
theorem give_n {i : Nat} {d : D} : give (.n i) d env = put env i (.im d) := by simp only [give]
theorem give_t {gs : G} {ds : List D} : give (.t gs) (.tup ds) env = gives gs ds env := by simp only [give]
theorem give_l {gs : G} {ds : List D} : give (.t gs) (.lst ds) env = gives gs ds env := by simp only [give]
theorem give_p {gs : G} {ds : List D} : give (.t gs) (.pr ds) env = gives gs ds env := by simp only [give]
theorem gives_nil : gives .nil [] env = some env := by simp only [gives]
def givesK (b : G) (ds : List D) : Option En → Option En
  | some e => gives b ds e
  | none => none
theorem gives_cons {a b : G} {d : D} {ds : List D} : gives (.cons a b) (d :: ds) env = givesK b ds (give a d env) := by
  simp only [gives]
  cases give a d env <;> rfl
theorem givesK_s {b : G} {ds : List D} {e : En} : givesK b ds (some e) = gives b ds e := rfl
theorem wipe_nil : wipeE env [] = env := rfl
theorem wipe_cons {i : Nat} {r : List Nat} : wipeE env (i :: r) = wipeE (setW env i .un) r := rfl
theorem unw_nil {old : En} : unwipeE old env [] = env := rfl
theorem unw_cons {old : En} {i : Nat} {r : List Nat} : unwipeE old env (i :: r) = unwipeE old (setW env i (old.getD i .un)) r := rfl
/-! operators -/
section
variable {i j : Int} {xs ys : List D} {x y : D}
theorem b_add : binop .add (.im (.int i)) (.im (.int j)) = some (.im (.int (i + j))) := rfl
theorem b_sub : binop .sub (.im (.int i)) (.im (.int j)) = some (.im (.int (i - j))) := rfl
theorem b_mul (h : mulOk i j = true) : binop .mul (.im (.int i)) (.im (.int j)) = some (.im (.int (i * j))) := by
  unfold binop binD d2
  simp [repT, T.d, h]
theorem mulOk_l (h0 : -1000000000000000000 < i) (h : i < 1000000000000000000) : mulOk i j = true := by
  have : i.natAbs < 2 ^ 64 := by omega
  simp [mulOk, this]
theorem mulOk_r (h0 : -1000000000000000000 < j) (h : j < 1000000000000000000) : mulOk i j = true := by
  have : j.natAbs < 2 ^ 64 := by omega
  simp [mulOk, this]
set_option exponentiation.threshold 20000 in
theorem b_fdiv (h : 0 < j) (h1 : j < 18446744073709551616) : binop .fdiv (.im (.int i)) (.im (.int j)) = some (.im (.int (i / j))) := by
  have h2 : j.natAbs < 2 ^ 9000 := Nat.lt_of_lt_of_le (show j.natAbs < 18446744073709551616 by omega) (by decide +kernel)
  unfold binop binD d2
  simp [T.d, h, h2]
theorem b_mod (h : 0 < j) : binop .mod (.im (.int i)) (.im (.int j)) = some (.im (.int (i % j))) := by
  unfold binop binD d2
  simp [T.d, h]
theorem b_pow {n : Nat} (h : n ≤ 10000) (hi0 : -1000000000000000000 < i) (hi1 : i < 1000000000000000000) : binop .pow (.im (.int i)) (.im (.int (n : Int))) = some (.im (.int (i ^ n))) := by
  have h1 : i.natAbs < 2 ^ 64 := by omega
  unfold binop binD d2
  have h2 : (0 : Int) ≤ (n : Int) ∧ (n : Int) ≤ 10000 ∧ i.natAbs < 2 ^ 64 := ⟨by omega, by omega, h1⟩
  simp only [T.d, if_pos h2, Int.toNat_natCast]
theorem b_pow18 : binop .pow (.im (.int 10)) (.im (.int 18)) = some (.im (.int 1000000000000000000)) := b_pow (n := 18) (by decide) (by decide) (by decide)
theorem b_addT (h : xs.length + ys.length ≤ 16777216) : binop .add (.im (.tup xs)) (.im (.tup ys)) = some (.im (.tup (xs ++ ys))) := by
  have hSL : SL = 16777216 := rfl
  unfold binop binD d2
  simp [T.d, hSL, h]
theorem b_addNN (h : xs.length + ys.length ≤ 16777216) : binop .add (.nu (.l xs)) (.nu (.l ys)) = some (.nu (.l (xs ++ ys))) := by
  have hSL : SL = 16777216 := rfl
  unfold binop binD d2
  simp [T.d, hSL, h]
theorem b_addIN (h : xs.length + ys.length ≤ 16777216) : binop .add (.im (.lst xs)) (.nu (.l ys)) = some (.nu (.l (xs ++ ys))) := by
  have hSL : SL = 16777216 := rfl
  unfold binop binD d2
  simp [T.d, hSL, h]
theorem b_addNI (h : xs.length + ys.length ≤ 16777216) : binop .add (.nu (.l xs)) (.im (.lst ys)) = some (.nu (.l (xs ++ ys))) := by
  have hSL : SL = 16777216 := rfl
  unfold binop binD d2
  simp [T.d, hSL, h]
theorem b_rep {n : Nat} (h : n < 10000) : binop .mul (.nu (.l [x])) (.im (.int (n : Int))) = some (.nu (.l (List.replicate n x))) := by
  have h2 : (0 : Int) ≤ (n : Int) ∧ (n : Int) < 10000 := ⟨by omega, by omega⟩
  unfold binop
  simp only [repT, if_pos h2, Int.toNat_natCast]
theorem b_repT {n : Nat} {ds : List D} (h : n ≤ 1000) (hd : ds.length < 1000) : binop .mul (.im (.tup (x :: ds))) (.im (.int (n : Int))) = some (.im (.tup (List.replicate n (x :: ds)).flatten)) := by
  have h2 : (0 : Int) ≤ (n : Int) ∧ (n : Int) ≤ 1000 ∧ ds.length < 1000 := ⟨by omega, by omega, hd⟩
  unfold binop
  simp only [repT, if_pos h2, Int.toNat_natCast]
theorem b_rep0 {n : Nat} (h : n ≤ 1000) : binop .mul (.im (.tup [])) (.im (.int (n : Int))) = some (.im (.tup [])) := by
  have h2 : (0 : Int) ≤ (n : Int) ∧ (n : Int) ≤ 1000 := ⟨by omega, by omega⟩
  unfold binop
  simp only [repT, if_pos h2]
theorem c_lt : cmpop .lt (.im (.int i)) (.im (.int j)) = some (decide (i < j)) := rfl
theorem c_le : cmpop .le (.im (.int i)) (.im (.int j)) = some (decide (i ≤ j)) := rfl
theorem c_gt : cmpop .gt (.im (.int i)) (.im (.int j)) = some (decide (j < i)) := rfl
theorem c_ge : cmpop .ge (.im (.int i)) (.im (.int j)) = some (decide (j ≤ i)) := rfl
theorem c_eqI : cmpop .eq (.im (.int i)) (.im (.int j)) = some (decide (i = j)) := rfl
theorem c_neI : cmpop .ne (.im (.int i)) (.im (.int j)) = some (!decide (i = j)) := rfl
theorem cmpR_eq {o : COp} {x y : T} : cmpR o x y = (cmpop o x y).map fun b => .im (.bl b) := rfl
theorem mapB {b : Bool} : (some b).map (fun b => T.im (.bl b)) = some (.im (.bl b)) := rfl
theorem mapD {d : D} : (some d).map T.im = some (.im d) := rfl
theorem mapO {d : D} {ds : List D} : (some d).map (· :: ds) = some (d :: ds) := rfl
theorem c_isN {d : D} : cmpop .is (.im d) (.im .non) = some (match d with | .non => true | _ => false) := by cases d <;> rfl
theorem c_isnN {d : D} : cmpop .isn (.im d) (.im .non) = some (match d with | .non => false | _ => true) := by cases d <;> rfl
theorem t_bl {b : Bool} : truth (.im (.bl b)) = some b := rfl
theorem t_int : truth (.im (.int i)) = some (!decide (i = 0)) := rfl
theorem t_tup : truth (.im (.tup xs)) = some (!xs.isEmpty) := rfl
theorem t_lst : truth (.im (.lst xs)) = some (!xs.isEmpty) := rfl
theorem t_nu : truth (.nu (.l xs)) = some (!xs.isEmpty) := rfl
theorem t_non : truth (.im .non) = some false := rfl
theorem d_im {d : D} : (T.im d).d = some d := rfl
theorem d_nu : (T.nu (.l xs)).d = some (.lst xs) := rfl
theorem intOf_i : intOf (.im (.int i)) = some i := rfl
theorem seq_t : seqOf (.im (.tup xs)) = some xs := rfl
theorem seq_l : seqOf (.im (.lst xs)) = some xs := rfl
theorem seq_n : seqOf (.nu (.l xs)) = some xs := rfl
theorem ix_t : indexT (.im (.tup xs)) (.im (.int i)) = atIx xs i := rfl
theorem ix_l : indexT (.im (.lst xs)) (.im (.int i)) = atIx xs i := rfl
theorem ix_n : indexT (.nu (.l xs)) (.im (.int i)) = atIx xs i := rfl
theorem atIx_nat {n : Nat} (h : n < xs.length) : atIx xs (n : Int) = some xs[n] := by
  have h1 : (0 : Int) ≤ (n : Int) := Int.natCast_nonneg n
  have h2 : ((n : Int) < (xs.length : Int)) := by omega
  unfold atIx ixE
  simp [h1, h2, h]
theorem atIx_get {n : Nat} {d : D} (h : xs[n]? = some d) : atIx xs (n : Int) = some d := by
  obtain ⟨h1, h2⟩ := List.getElem?_eq_some_iff.mp h
  rw [atIx_nat h1, h2]
theorem atIx_0 : atIx (x :: xs) 0 = some x := by
  have := atIx_nat (xs := x :: xs) (n := 0) (by simp)
  simpa using this
theorem atIx_1 : atIx (x :: y :: xs) 1 = some y := by
  have := atIx_nat (xs := x :: y :: xs) (n := 1) (by simp)
  simpa using this
theorem atIx_2 {z : D} : atIx (x :: y :: z :: xs) 2 = some z := by
  have := atIx_nat (xs := x :: y :: z :: xs) (n := 2) (by simp)
  simpa using this
theorem atIx_m1 : atIx (xs ++ [x]) (-1) = some x := by
  unfold atIx ixE
  have h1 : ¬ (0 : Int) ≤ -1 := by omega
  have h2 : -((xs ++ [x]).length : Int) ≤ -1 := by
    simp
    omega
  have h3 : (-1 + ((xs ++ [x]).length : Int)).toNat = xs.length := by
    simp
    omega
  rw [if_neg h1, if_pos h2, h3]
  simp
theorem sl_t {l h : Option Int} : sliceT (.im (.tup xs)) l h = some (.im (.tup (cut xs l h))) := rfl
theorem sl_l {l h : Option Int} : sliceT (.im (.lst xs)) l h = some (.nu (.l (cut xs l h))) := rfl
theorem sl_n {l h : Option Int} : sliceT (.nu (.l xs)) l h = some (.nu (.l (cut xs l h))) := rfl
theorem cut_take {n : Nat} : cut xs none (some (n : Int)) = xs.take n := by
  have h : ¬ ((n : Int) < 0) := by omega
  unfold cut clip
  simp [h]
theorem cut_drop {n : Nat} : cut xs (some (n : Int)) none = xs.drop n := by
  have h : ¬ ((n : Int) < 0) := by omega
  unfold cut clip
  simp [h]
  rcases Nat.le_total n xs.length with h | h
  · rw [Nat.min_eq_left h]
    exact List.take_of_length_le (by simp)
  · rw [Nat.min_eq_right h, List.drop_eq_nil_of_le h]
    simp
theorem cut_takeI {i : Int} (h : 0 ≤ i) : cut xs none (some i) = xs.take i.toNat := by
  obtain ⟨n, rfl⟩ := Int.eq_ofNat_of_zero_le h
  rw [Int.toNat_natCast]
  exact cut_take
theorem cut_dropI {i : Int} (h : 0 ≤ i) : cut xs (some i) none = xs.drop i.toNat := by
  obtain ⟨n, rfl⟩ := Int.eq_ofNat_of_zero_le h
  rw [Int.toNat_natCast]
  exact cut_drop
theorem cut_m1 {α : Type} {xs : List α} : cut xs none (some (-1)) = xs.dropLast := by
  simp only [cut, clip, show ((-1 : Int) < 0) = True by simp, if_true, List.drop_zero, List.dropLast_eq_take, Nat.sub_zero]
  congr 1
  omega
theorem cut_one {α : Type} {xs : List α} {n : Nat} : cut xs (some (n : Int)) (some ((n : Int) + 1)) = (xs.drop n).take 1 := by
  have h1 : ¬ ((n : Int) < 0) := by omega
  have h2 : ¬ ((n : Int) + 1 < 0) := by omega
  simp only [cut, clip, h1, h2, if_false]
  by_cases h : n < xs.length
  · have e1 : min (n : Int).toNat xs.length = n := by omega
    have e2 : min ((n : Int) + 1).toNat xs.length - min (n : Int).toNat xs.length = 1 := by omega
    rw [e2, e1]
  · have e1 : min (n : Int).toNat xs.length = xs.length := by omega
    rw [e1, List.drop_length, List.drop_eq_nil_of_le (by omega)]
    simp
theorem rv_t : revT (.im (.tup xs)) = some (.im (.tup xs.reverse)) := rfl
theorem rv_l : revT (.im (.lst xs)) = some (.nu (.l xs.reverse)) := rfl
theorem rv_n : revT (.nu (.l xs)) = some (.nu (.l xs.reverse)) := rfl
theorem int_b {b : Bool} : bifn .int [.im (.bl b)] = some (.im (.int (if b then 1 else 0))) := rfl
theorem int_i : bifn .int [.im (.int i)] = some (.im (.int i)) := rfl
theorem len_t : bifn .len [.im (.tup xs)] = some (.im (.int xs.length)) := rfl
theorem len_l : bifn .len [.im (.lst xs)] = some (.im (.int xs.length)) := rfl
theorem len_n : bifn .len [.nu (.l xs)] = some (.im (.int xs.length)) := rfl
theorem tuple_t : bifn .tuple [.im (.tup xs)] = some (.im (.tup xs)) := rfl
theorem tuple_l : bifn .tuple [.im (.lst xs)] = some (.im (.tup xs)) := rfl
theorem tuple_n : bifn .tuple [.nu (.l xs)] = some (.im (.tup xs)) := rfl
theorem list_t : bifn .list [.im (.tup xs)] = some (.nu (.l xs)) := rfl
theorem list_l : bifn .list [.im (.lst xs)] = some (.nu (.l xs)) := rfl
theorem list_n : bifn .list [.nu (.l xs)] = some (.nu (.l xs)) := rfl
theorem max_i : bifn .max [.im (.int i), .im (.int j)] = some (.im (.int (max i j))) := by
  show some (T.im (.int (if j > i then j else i))) = _
  congr 3
  split <;> omega
theorem min_i : bifn .min [.im (.int i), .im (.int j)] = some (.im (.int (min i j))) := by
  show some (T.im (.int (if j < i then j else i))) = _
  congr 3
  split <;> omega
theorem isi_ii : bifn .isinst [.im (.int i), .im (.ty 0)] = some (.im (.bl true)) := rfl
theorem isi_ib : bifn .isinst [.im (.int i), .im (.ty 1)] = some (.im (.bl false)) := rfl
theorem isi_bb {b : Bool} : bifn .isinst [.im (.bl b), .im (.ty 1)] = some (.im (.bl true)) := rfl
theorem isi_tt : bifn .isinst [.im (.tup xs), .im (.ty 3)] = some (.im (.bl true)) := rfl
theorem w_range {ds : List D} : walkB .range ds = rangeOf ds := rfl
theorem w_zipT : walkB .zip [.tup xs, .tup ys] = some (List.zipWith (fun a b => .pr [a, b]) xs ys) := rfl
theorem w_zipL : walkB .zip [.lst xs, .lst ys] = some (List.zipWith (fun a b => .pr [a, b]) xs ys) := rfl
theorem w_enumT : walkB .enum [.tup xs] = some (xs.zipIdx.map fun p => .pr [.int p.2, p.1]) := rfl
theorem w_enumL : walkB .enum [.lst xs] = some (xs.zipIdx.map fun p => .pr [.int p.2, p.1]) := rfl
theorem w_revT : walkB .rev [.tup xs] = some xs.reverse := rfl
/-- 0 .. n - 1 -/
def upto (n : Nat) : List D := (List.range n).map fun (k : Nat) => D.int (k : Int)
theorem upto_len {n : Nat} : (upto n).length = n := by simp [upto]
theorem upto_get {n k : Nat} (h : k < (upto n).length) : (upto n)[k] = .int (k : Int) := by simp [upto]
theorem rangeL_nat {n : Nat} (h : n < 1000000) : rangeL 0 (n : Int) 1 = some (upto n) := by
  unfold rangeL
  rw [if_pos (by omega)]
  have : (((n : Int) - 0 + 1 - 1) / 1).toNat = n := by omega
  rw [this]
  unfold upto
  congr 2
  funext k
  congr 1
  omega
theorem range_1 {n : Nat} (h : n < 1000000) : rangeOf [.int (n : Int)] = some (upto n) := rangeL_nat h
theorem col_t {ds : List D} (h : ds.length ≤ 16777216) : colT .tuple ds = some (.im (.tup ds)) := by have hSL : SL = 16777216 := rfl; simp [colT, hSL, h]
theorem col_l {ds : List D} (h : ds.length ≤ 16777216) : colT .list ds = some (.nu (.l ds)) := by have hSL : SL = 16777216 := rfl; simp [colT, hSL, h]
theorem mkTup_eq {ds : List D} (h : ds.length ≤ 16777216) : mkTup ds env = .ok (.im (.tup ds)) env := by have hSL : SL = 16777216 := rfl; simp [mkTup, hSL, h]
theorem mkLst_eq {ds : List D} (h : ds.length ≤ 16777216) : mkLst ds env = .ok (.nu (.l ds)) env := by have hSL : SL = 16777216 := rfl; simp [mkLst, hSL, h]
end
/-! what a run ends in -/
def WR (r : Res α) (Q : α → En → Prop) : Prop := ∃ a e, r = .ok a e ∧ Q a e
theorem wr_ok {a : α} {e : En} {Q : α → En → Prop} : WR (.ok a e) Q ↔ Q a e := by
  constructor
  · rintro ⟨_, _, h, q⟩
    cases h
    exact q
  · exact fun q => ⟨a, e, rfl, q⟩
theorem wr_bnd {r : Res α} {f : α → En → Res β} {Q : β → En → Prop} : WR (bnd r f) Q ↔ WR r fun a e => WR (f a e) Q := by
  constructor
  · rintro ⟨b, e, h, q⟩
    cases r with
    | ok a e1 => exact ⟨a, e1, rfl, b, e, h, q⟩
    | ex k e1 => cases h
    | bad => cases h
  · rintro ⟨a, e1, rfl, b, e, h, q⟩
    exact ⟨b, e, h, q⟩
theorem WR.mono {r : Res α} {Q R : α → En → Prop} (h : WR r Q) (q : ∀ a e, Q a e → R a e) : WR r R := by
  obtain ⟨a, e, h1, h2⟩ := h
  exact ⟨a, e, h1, q a e h2⟩
/-- a call that comes back -/
def Calls (cf : CF) (f : Nat) (ws : List W) (Q : T → List W → Prop) : Prop := ∃ t ws', cf f ws = some (some (t, ws')) ∧ Q t ws'
def Ends (n : Nat) (Q : T → List W → Prop) (f : Fl) (e : En) : Prop := match f with
  | .rt t => Q t (e.take n)
  | .nx => Q (.im .non) (e.take n)
  | _ => False
theorem calls_of {P : Prog} {n f : Nat} {fn : Fn} {ws : List W} {Q : T → List W → Prop} (hP : P[f]? = some fn) (hl : ws.length = fn.args) (h : WR (sx (callD P n) fn.body (startE fn ws)) (Ends fn.args Q)) : Calls (callD P (n + 1)) f ws Q := by
  obtain ⟨fl, e, h1, h2⟩ := h
  show ∃ t ws', (match P[f]? with | some fn => run1 (callD P n) fn ws | none => none) = _ ∧ _
  rw [hP]
  show ∃ t ws', run1 (callD P n) fn ws = _ ∧ _
  unfold run1
  rw [if_pos hl, h1]
  cases fl with
  | nx => exact ⟨_, _, rfl, h2⟩
  | rt t => exact ⟨_, _, rfl, h2⟩
  | bk => exact h2.elim
  | ct => exact h2.elim
/-! loops -/
/-- where a turn of a loop ends -/
def Turn (I : En → Prop) (Q : Fl → En → Prop) (f : Fl) (e : En) : Prop := match f with
  | .nx => I e
  | .ct => I e
  | .bk => Q .nx e
  | .rt t => Q (.rt t) e
theorem wr_forFrom {g : G} {b : En → Res Fl} {Q : Fl → En → Prop} : ∀ (xs : List D) (I : Nat → En → Prop) {env : En}, I 0 env →
    (∀ i (h : i < xs.length) env, I i env → ∃ env1, give g xs[i] env = some env1 ∧ WR (b env1) (Turn (I (i + 1)) Q)) →
    (∀ env, I xs.length env → Q .nx env) → WR (forLoop g b xs env) Q
  | [], I, env, h0, hs, he => ⟨.nx, env, rfl, he env h0⟩
  | x :: xs, I, env, h0, hs, he => by
    obtain ⟨env1, hg, f, e, hb, ht⟩ := hs 0 (by simp) env h0
    have hg : give g x env = some env1 := hg
    have rest : ∀ e, I 1 e → WR (forLoop g b xs e) Q := fun e h => wr_forFrom xs (fun i => I (i + 1)) h (fun i hi env h => hs (i + 1) (by simpa using hi) env h) fun env h => he env (by simpa using h)
    unfold forLoop
    rw [hg]
    show WR ((b env1).bind _) Q
    rw [hb]
    cases f with
    | nx => exact rest e ht
    | ct => exact rest e ht
    | bk => exact ⟨_, _, rfl, ht⟩
    | rt t => exact ⟨_, _, rfl, ht⟩
theorem wr_for {g : G} {b : S} {xs : List D} {Q : Fl → En → Prop} (I : Nat → En → Prop) (h0 : I 0 env)
    (hs : ∀ i (h : i < xs.length) env, I i env → ∃ env1, give g xs[i] env = some env1 ∧ WR (sx cf b env1) (Turn (I (i + 1)) Q))
    (he : ∀ env, I xs.length env → Q .nx env) : WR (kFor cf g b xs env) Q := wr_forFrom xs I h0 hs he
/-- where a while's turn ends -/
theorem wr_whFrom {c : En → Res Bool} {b : En → Res Fl} {Q : Fl → En → Prop} (I : Nat → En → Prop)
    (hs : ∀ n env, I n env → WR (c env) fun k e => match k with
      | true => WR (b e) (Turn (fun e => ∃ m, m < n ∧ I m e) Q)
      | false => Q .nx e) : ∀ (w n : Nat) {env : En}, n < w → I n env → WR (whLoop c b w env) Q
  | 0, n, env, hn, _ => absurd hn (by omega)
  | w + 1, n, env, hn, h => by
    obtain ⟨k, e, hc, hk⟩ := hs n env h
    unfold whLoop
    rw [hc]
    cases k with
    | false => exact ⟨_, _, rfl, hk⟩
    | true =>
      obtain ⟨f, e2, hb, ht⟩ := hk
      show WR ((b e).bind _) Q
      rw [hb]
      cases f with
      | nx => obtain ⟨m, hm, hi⟩ := ht; exact wr_whFrom I hs w m (by omega) hi
      | ct => obtain ⟨m, hm, hi⟩ := ht; exact wr_whFrom I hs w m (by omega) hi
      | bk => exact ⟨_, _, rfl, ht⟩
      | rt t => exact ⟨_, _, rfl, ht⟩
theorem wr_wh {c : E} {b : S} {Q : Fl → En → Prop} (I : Nat → En → Prop) (n : Nat) (hn : n < WF) (h0 : I n env)
    (hs : ∀ n env, I n env → WR (tst cf c env) fun k e => match k with
      | true => WR (sx cf b e) (Turn (fun e => ∃ m, m < n ∧ I m e) Q)
      | false => Q .nx e) : WR (whLoop (tst cf c) (sx cf b) WF env) Q := wr_whFrom I hs WF n hn h0
/-! comprehensions: lists and tuples -/
def isLT : LK → Bool
  | .list => true
  | .tuple => true
  | _ => false
def lcT (k : LK) (ds : List D) : T := match k with
  | .list => .nu (.l ds)
  | _ => .im (.tup ds)
theorem wr_lcFrom {k : LK} {own : List Nat} {g : G} {ifs : En → Res Bool} {e : En → Res T} {Q : T → En → Prop} (hk : isLT k = true) : ∀ (xs : List D) (I : Nat → List D → En → Prop) {acc : List D} {env : En}, I 0 acc.reverse env →
    (∀ i (h : i < xs.length) acc env, I i acc env → ∃ env1, give g xs[i] (wipeE env own) = some env1 ∧ WR (ifs env1) fun b env2 => match b with
      | true => WR (e env2) fun t env3 => ∃ d, t.d = some d ∧ acc.length < SL ∧ I (i + 1) (acc ++ [d]) env3
      | false => I (i + 1) acc env2) →
    (∀ acc env, I xs.length acc env → Q (lcT k acc) env) → WR (lcLoop k own g ifs e xs acc env) Q
  | [], I, acc, env, h0, hs, he => by
    unfold lcLoop
    cases k with
    | list => exact ⟨_, _, rfl, he _ _ h0⟩
    | tuple => exact ⟨_, _, rfl, he _ _ h0⟩
    | _ => cases hk
  | x :: xs, I, acc, env, h0, hs, he => by
    obtain ⟨env1, hg, b, env2, hb, ht⟩ := hs 0 (by simp) _ env h0
    have hg : give g x (wipeE env own) = some env1 := hg
    have rest : ∀ acc' e, I 1 acc'.reverse e → WR (lcLoop k own g ifs _ xs acc' e) Q := fun acc' e h => wr_lcFrom hk xs (fun i => I (i + 1)) h (fun i hi a env h => hs (i + 1) (by simpa using hi) a env h) fun a env h => he a env (by simpa using h)
    unfold lcLoop
    rw [hg]
    show WR ((ifs env1).bind _) Q
    rw [hb]
    cases b with
    | false => exact rest acc env2 ht
    | true =>
      obtain ⟨t, env3, h1, d, h2, h3, h4⟩ := ht
      show WR ((e env2).bind _) Q
      rw [h1]
      have ha : accStep k acc t = some (.go (d :: acc)) := by
        have h3 : acc.length < SL := by simpa using h3
        cases k with
        | list => simp [accStep, h2, h3]
        | tuple => simp [accStep, h2, h3]
        | _ => cases hk
      show WR (match accStep k acc t with | some (.go acc') => _ | some (.stop b) => _ | none => _) Q
      rw [ha]
      exact rest (d :: acc) env3 (by simpa using h4)
theorem wr_lc {k : LK} {own : List Nat} {g : G} {ifs e : E} {xs : List D} {Q : T → En → Prop} (hk : isLT k = true) (I : Nat → List D → En → Prop) (h0 : I 0 [] env)
    (hs : ∀ i (h : i < xs.length) acc env, I i acc env → ∃ env1, give g xs[i] (wipeE env own) = some env1 ∧ WR (lcIf cf ifs env1) fun b env2 => match b with
      | true => WR (ev cf e false env2) fun t env3 => ∃ d, t.d = some d ∧ acc.length < SL ∧ I (i + 1) (acc ++ [d]) env3
      | false => I (i + 1) acc env2)
    (he : ∀ acc env', I xs.length acc env' → Q (lcT k acc) (unwipeE env env' own)) : WR (kLc cf k own g ifs e xs env) Q := by
  unfold kLc
  rw [wr_bnd]
  refine wr_lcFrom hk xs I h0 hs fun acc env' h => ?_
  exact ⟨_, _, rfl, he acc env' h⟩
end
end SwP
namespace SwP
open Sw
section
variable {cf : CF} {env : En}
theorem rt_c {d : D} : sx cf (.ret (.c d)) env = .ok (.rt (.im d)) env := rfl
theorem rt_op {o : BOp} {a b : E} : sx cf (.ret (.op o a b)) env = bnd (ev cf (.op o a b) false env) kRet := rfl
theorem rt_cmp {o : COp} {a b : E} : sx cf (.ret (.cmp o a b)) env = bnd (ev cf (.cmp o a b) false env) kRet := rfl
theorem rt_chain {o p : COp} {a b c : E} : sx cf (.ret (.chain o p a b c)) env = bnd (ev cf (.chain o p a b c) false env) kRet := rfl
theorem rt_neg {a : E} : sx cf (.ret (.neg a)) env = bnd (ev cf (.neg a) false env) kRet := rfl
theorem rt_no {a : E} : sx cf (.ret (.no a)) env = bnd (ev cf (.no a) false env) kRet := rfl
theorem rt_an {a b : E} : sx cf (.ret (.an a b)) env = bnd (ev cf (.an a b) false env) kRet := rfl
theorem rt_oo {a b : E} : sx cf (.ret (.oo a b)) env = bnd (ev cf (.oo a b) false env) kRet := rfl
theorem rt_ite {a b c : E} : sx cf (.ret (.ite a b c)) env = bnd (ev cf (.ite a b c) false env) kRet := rfl
theorem rt_tup {a : E} : sx cf (.ret (.tup a)) env = bnd (ev cf (.tup a) false env) kRet := rfl
theorem rt_lst {a : E} : sx cf (.ret (.lst a)) env = bnd (ev cf (.lst a) false env) kRet := rfl
theorem rt_ix {a b : E} : sx cf (.ret (.ix a b)) env = bnd (ev cf (.ix a b) false env) kRet := rfl
theorem rt_sl {a b c : E} : sx cf (.ret (.sl a b c)) env = bnd (ev cf (.sl a b c) false env) kRet := rfl
theorem rt_rv {a : E} : sx cf (.ret (.rv a)) env = bnd (ev cf (.rv a) false env) kRet := rfl
theorem rt_call {f : Nat} {a : E} : sx cf (.ret (.call f a)) env = bnd (ev cf (.call f a) false env) kRet := rfl
theorem rt_bi {f : BI} {a : E} : sx cf (.ret (.bi f a)) env = bnd (ev cf (.bi f a) false env) kRet := rfl
theorem rt_mt {f : MT} {a b : E} : sx cf (.ret (.mt f a b)) env = bnd (ev cf (.mt f a b) false env) kRet := rfl
theorem rt_lc {k : LK} {o : List Nat} {g : G} {i f e : E} : sx cf (.ret (.lc k o g i f e)) env = bnd (ev cf (.lc k o g i f e) false env) kRet := rfl
theorem rt_col {k : LK} {a : E} : sx cf (.ret (.col k a)) env = bnd (ev cf (.col k a) false env) kRet := rfl
end
end SwP

set_option linter.all false
set_option maxRecDepth 100000
/-! Lists of whole numbers and of pairs; sums, all. -/
namespace SwP
open Sw
/-- whole numbers from 0 on -/
def nums (l : List Nat) : List D := l.map fun (k : Nat) => D.int (k : Int)
theorem nums_len {l : List Nat} : (nums l).length = l.length := by simp [nums]
theorem nums_nil : nums [] = [] := rfl
theorem nums_cons {a : Nat} {l : List Nat} : nums (a :: l) = .int (a : Int) :: nums l := rfl
theorem nums_app {l m : List Nat} : nums (l ++ m) = nums l ++ nums m := by simp [nums]
theorem nums_get {l : List Nat} {n : Nat} (h : n < (nums l).length) : (nums l)[n] = .int ((l[n]'(by simpa [nums] using h) : Nat) : Int) := by simp [nums]
theorem nums_get? {l : List Nat} {n : Nat} : (nums l)[n]? = (l[n]?).map fun (k : Nat) => D.int (k : Int) := by simp [nums]
theorem nums_erase {l : List Nat} {n : Nat} : (nums l).eraseIdx n = nums (l.eraseIdx n) := by
  unfold nums
  induction l generalizing n with
  | nil => simp
  | cons a l ih => cases n <;> simp [ih]
theorem nums_set {l : List Nat} {n a : Nat} : (nums l).set n (.int (a : Int)) = nums (l.set n a) := by
  unfold nums
  rw [List.map_set]
theorem nums_rev {l : List Nat} : (nums l).reverse = nums l.reverse := by simp [nums]
theorem nums_take {l : List Nat} {n : Nat} : (nums l).take n = nums (l.take n) := by simp [nums, List.map_take]
theorem nums_drop {l : List Nat} {n : Nat} : (nums l).drop n = nums (l.drop n) := by simp [nums, List.map_drop]
theorem nums_rep {n a : Nat} : List.replicate n (D.int (a : Int)) = nums (List.replicate n a) := by simp [nums]
theorem nums_inj {l m : List Nat} (h : nums l = nums m) : l = m := by
  unfold nums at h
  exact List.map_inj_right (fun a b hab => by injection hab with h; omega) |>.mp h
theorem upto_nums {n : Nat} : upto n = nums (List.range n) := rfl
theorem nums_zip {l : List Nat} : (nums l).zipIdx.map (fun p => D.pr [.int p.2, p.1]) = l.zipIdx.map fun p => D.pr [.int (p.2 : Int), .int (p.1 : Int)] := by
  unfold nums
  rw [List.zipIdx_map, List.map_map]
  rfl
mutual
theorem deq_refl : ∀ d : D, D.noTy d = true → D.eq d d = true
  | .non, _ => by simp [D.eq]
  | .bl _, _ => by simp [D.eq]
  | .int _, _ => by simp [D.eq]
  | .str _, _ => by simp [D.eq]
  | .ty _, _ => by simp [D.eq]
  | .pr _, h => by simp [D.noTy] at h
  | .tup xs, h => by simp only [D.eq]; exact deqs_refl xs (by simpa only [D.noTy] using h)
  | .lst xs, h => by simp only [D.eq]; exact deqs_refl xs (by simpa only [D.noTy] using h)
theorem deqs_refl : ∀ xs : List D, D.noTys xs = true → D.eqs xs xs = true
  | [], _ => by simp [D.eqs]
  | x :: xs, h => by
    simp only [D.noTys, Bool.and_eq_true] at h
    simp only [D.eqs, deq_refl x h.1, deqs_refl xs h.2, Bool.and_self]
end
theorem flat_no {d : D} (h : D.flat d = true) : D.noTy d = true := by
  unfold D.flat at h
  simp only [Bool.and_eq_true] at h
  exact h.1
/-- whole numbers, None, truths and tuples of these, so deep -/
inductive Fine : Nat → D → Prop
  | int {n : Nat} (i : Int) : Fine n (.int i)
  | non {n : Nat} : Fine n .non
  | bl {n : Nat} (b : Bool) : Fine n (.bl b)
  | tup {n : Nat} {xs : List D} (h : ∀ x ∈ xs, Fine n x) : Fine (n + 1) (.tup xs)
  | lst {n : Nat} {xs : List D} (h : ∀ x ∈ xs, Fine n x) : Fine (n + 1) (.lst xs)
theorem noTys_of {xs : List D} (h : ∀ x ∈ xs, D.noTy x = true) : D.noTys xs = true := by
  induction xs with
  | nil => simp [D.noTys]
  | cons x xs ih =>
    simp only [D.noTys, Bool.and_eq_true]
    exact ⟨h x (by simp), ih fun y hy => h y (by simp [hy])⟩
theorem deps_of {xs : List D} {n : Nat} (h : ∀ x ∈ xs, D.dep x ≤ n) : D.deps xs ≤ n := by
  induction xs with
  | nil => simp [D.deps]
  | cons x xs ih =>
    simp only [D.deps]
    exact Nat.max_le.mpr ⟨h x (by simp), ih fun y hy => h y (by simp [hy])⟩
theorem Fine.noTy {n : Nat} {d : D} (h : Fine n d) : D.noTy d = true := by
  induction h with
  | int => simp [D.noTy]
  | non => simp [D.noTy]
  | bl => simp [D.noTy]
  | tup _ ih => simp only [D.noTy]; exact noTys_of ih
  | lst _ ih => simp only [D.noTy]; exact noTys_of ih
theorem Fine.dep {n : Nat} {d : D} (h : Fine n d) : D.dep d ≤ n := by
  induction h with
  | int => simp [D.dep]
  | non => simp [D.dep]
  | bl => simp [D.dep]
  | tup _ ih => simp only [D.dep]; have := deps_of ih; omega
  | lst _ ih => simp only [D.dep]; have := deps_of ih; omega
theorem Fine.flat {n : Nat} {d : D} (h : Fine n d) (hn : n ≤ 60) : D.flat d = true := by
  unfold D.flat
  have := h.dep
  rw [h.noTy, decide_eq_true (by omega)]
  rfl
theorem Fine.mono {n m : Nat} {d : D} (h : Fine n d) (hm : n ≤ m) : Fine m d := by
  induction h generalizing m with
  | int i => exact .int i
  | non => exact .non
  | bl b => exact .bl b
  | tup _ ih =>
    obtain ⟨k, rfl⟩ : ∃ k, m = k + 1 := ⟨m - 1, by omega⟩
    exact .tup fun x hx => ih x hx (by omega)
  | lst _ ih =>
    obtain ⟨k, rfl⟩ : ∃ k, m = k + 1 := ⟨m - 1, by omega⟩
    exact .lst fun x hx => ih x hx (by omega)
theorem fine_nums {n : Nat} {l : List Nat} : ∀ x ∈ nums l, Fine n x := by
  intro x hx
  simp only [nums, List.mem_map] at hx
  obtain ⟨a, _, rfl⟩ := hx
  exact .int _
/-- the same thing is equal -/
theorem c_eq_same {d : D} (h : D.flat d = true) : cmpop .eq (.im d) (.im d) = some true := by
  show (if d.flat && d.flat then some (D.eq d d) else none) = _
  rw [h, deq_refl d (flat_no h)]
  rfl
theorem c_ne_same {d : D} (h : D.flat d = true) : cmpop .ne (.im d) (.im d) = some false := by
  show (if d.flat && d.flat then some (!D.eq d d) else none) = _
  rw [h, deq_refl d (flat_no h)]
  rfl
/-! pairs -/
def prs (l : List (Nat × Nat)) : List D := l.map fun p => D.tup [.int (p.1 : Int), .int (p.2 : Int)]
theorem prs_len {l : List (Nat × Nat)} : (prs l).length = l.length := by simp [prs]
theorem prs_nil : prs [] = [] := rfl
theorem prs_cons {p : Nat × Nat} {l : List (Nat × Nat)} : prs (p :: l) = .tup [.int (p.1 : Int), .int (p.2 : Int)] :: prs l := rfl
theorem prs_app {l m : List (Nat × Nat)} : prs (l ++ m) = prs l ++ prs m := by simp [prs]
theorem prs_get {l : List (Nat × Nat)} {n : Nat} (h : n < (prs l).length) : (prs l)[n] = .tup [.int ((l[n]'(by simpa [prs] using h)).1 : Int), .int ((l[n]'(by simpa [prs] using h)).2 : Int)] := by simp [prs]
def pLe (a b : Nat × Nat) : Bool := decide (a.1 < b.1) || (a.1 == b.1 && decide (a.2 ≤ b.2))
def sortP (l : List (Nat × Nat)) : List (Nat × Nat) := sortBy pLe l
theorem insBy_map {α β : Type} {f : α → β} {le : α → α → Bool} {le' : β → β → Bool} (h : ∀ a b, le' (f a) (f b) = le a b) (x : α) (l : List α) : insBy le' (f x) (l.map f) = (insBy le x l).map f := by
  induction l with
  | nil => rfl
  | cons y ys ih =>
    simp only [List.map_cons, insBy, h]
    split
    · simp
    · simp [ih]
theorem sortBy_map {α β : Type} {f : α → β} {le : α → α → Bool} {le' : β → β → Bool} (h : ∀ a b, le' (f a) (f b) = le a b) (l : List α) : sortBy le' (l.map f) = (sortBy le l).map f := by
  induction l with
  | nil => rfl
  | cons y ys ih => simp only [List.map_cons, sortBy, ih, insBy_map h]
theorem insBy_perm {α : Type} {le : α → α → Bool} (x : α) (l : List α) : (insBy le x l).Perm (x :: l) := by
  induction l with
  | nil => exact .refl _
  | cons y ys ih =>
    unfold insBy
    split
    · exact .refl _
    · exact (List.Perm.cons y ih).trans (.swap x y ys)
theorem sortBy_perm {α : Type} {le : α → α → Bool} (l : List α) : (sortBy le l).Perm l := by
  induction l with
  | nil => exact .refl _
  | cons y ys ih => exact (insBy_perm y _).trans (.cons y ih)
theorem insBy_sorted {α : Type} {le : α → α → Bool} (tot : ∀ a b, le a b = true ∨ le b a = true) (tr : ∀ a b c, le a b = true → le b c = true → le a c = true) (x : α) : ∀ (l : List α), l.Pairwise (fun a b => le a b = true) → (insBy le x l).Pairwise (fun a b => le a b = true)
  | [], _ => by simp [insBy]
  | y :: ys, h => by
    unfold insBy
    have h' := List.pairwise_cons.mp h
    split
    · rename_i hxy
      refine List.pairwise_cons.mpr ⟨fun z hz => ?_, h⟩
      rcases List.mem_cons.mp hz with rfl | hz
      · exact hxy
      · exact tr _ _ _ hxy (h'.1 z hz)
    · rename_i hxy
      refine List.pairwise_cons.mpr ⟨fun z hz => ?_, insBy_sorted tot tr x ys h'.2⟩
      rcases List.mem_cons.mp ((insBy_perm x ys).mem_iff.mp hz) with rfl | hz
      · exact (tot _ _).resolve_left hxy
      · exact h'.1 z hz
theorem sortBy_sorted {α : Type} {le : α → α → Bool} (tot : ∀ a b, le a b = true ∨ le b a = true) (tr : ∀ a b c, le a b = true → le b c = true → le a c = true) : ∀ (l : List α), (sortBy le l).Pairwise (fun a b => le a b = true)
  | [] => by simp [sortBy]
  | x :: xs => insBy_sorted tot tr x _ (sortBy_sorted tot tr xs)
theorem pLe_iff {a b : Nat × Nat} : pLe a b = true ↔ a.1 < b.1 ∨ (a.1 = b.1 ∧ a.2 ≤ b.2) := by simp [pLe]
theorem sortP_perm (l : List (Nat × Nat)) : (sortP l).Perm l := sortBy_perm l
theorem sortP_sorted (l : List (Nat × Nat)) : (sortP l).Pairwise (fun a b => pLe a b = true) := sortBy_sorted (fun a b => by simp only [pLe_iff]; omega) (fun a b c => by simp only [pLe_iff]; omega) l
theorem pairs_prs (l : List (Nat × Nat)) : pairs (prs l) = some (l.map fun p => ((p.1 : Int), (p.2 : Int))) := by
  induction l with
  | nil => rfl
  | cons p l ih =>
    simp only [prs_cons, pairs, ih]
    rfl
theorem intsOf_prs (p : Nat × Nat) (l : List (Nat × Nat)) : intsOf (prs (p :: l)) = none := rfl
theorem sortD_prs (l : List (Nat × Nat)) : sortD (prs l) = some (prs (sortP l)) := by
  cases l with
  | nil => rfl
  | cons p l =>
    unfold sortD
    rw [intsOf_prs, pairs_prs]
    show some ((sortBy pairLe ((p :: l).map fun p => ((p.1 : Int), (p.2 : Int)))).map fun p => D.tup [.int p.1, .int p.2]) = some _
    congr 1
    have hle : ∀ a b : Nat × Nat, pairLe ((a.1 : Int), (a.2 : Int)) ((b.1 : Int), (b.2 : Int)) = pLe a b := fun a b => by
      rw [Bool.eq_iff_iff, pLe_iff]
      simp only [pairLe, Bool.or_eq_true, Bool.and_eq_true, decide_eq_true_eq, beq_iff_eq]
      omega
    rw [sortBy_map (f := fun p : Nat × Nat => ((p.1 : Int), (p.2 : Int))) (le := pLe) hle]
    simp only [prs, sortP, List.map_map]
    rfl
theorem sorted_prs {l : List (Nat × Nat)} : bifn .sorted [.nu (.l (prs l))] = some (.nu (.l (prs (sortP l)))) := by
  show (sortD (prs l)).map _ = _
  rw [sortD_prs]
  rfl
theorem sorted_prsI {l : List (Nat × Nat)} : bifn .sorted [.im (.lst (prs l))] = some (.nu (.l (prs (sortP l)))) := by
  show (sortD (prs l)).map _ = _
  rw [sortD_prs]
  rfl
theorem sum_nums {l : List D} {ns : List Int} (h : intsOf l = some ns) : bifn .sum [.nu (.l l)] = some (.im (.int ns.sum)) := by
  show ((seqOf (.nu (.l l))).bind intsOf).map _ = _
  show (intsOf l).map _ = _
  rw [h]
  rfl
theorem intsOf_map : ∀ ns : List Int, intsOf (ns.map D.int) = some ns
  | [] => rfl
  | n :: ns => by simp only [List.map_cons, intsOf, intsOf_map ns]; rfl
theorem sum_map {ns : List Int} : bifn .sum [.nu (.l (ns.map D.int))] = some (.im (.int ns.sum)) := sum_nums (intsOf_map ns)
section
variable {cf : CF} {env : En}
/-! sum(.. for ..) -/
theorem wr_sumFrom {own : List Nat} {g : G} {ifs : En → Res Bool} {e : En → Res T} {Q : T → En → Prop} : ∀ (xs : List D) (I : Nat → List Int → En → Prop) {ns : List Int} {env : En}, I 0 ns env →
    (∀ i (h : i < xs.length) ns env, I i ns env → ∃ env1, give g xs[i] (wipeE env own) = some env1 ∧ WR (ifs env1) fun b env2 => match b with
      | true => WR (e env2) fun t env3 => ∃ k, t = .im (.int k) ∧ I (i + 1) (ns ++ [k]) env3
      | false => I (i + 1) ns env2) →
    (∀ ns env, I xs.length ns env → Q (.im (.int ns.sum)) env) → WR (lcLoop .sum own g ifs e xs (ns.map D.int).reverse env) Q
  | [], I, ns, env, h0, hs, he => by
    unfold lcLoop
    have : accEnd .sum (ns.map D.int).reverse = some (.im (.int ns.sum)) := by
      show (intsOf (ns.map D.int).reverse.reverse).map _ = _
      rw [List.reverse_reverse, intsOf_map]
      rfl
    rw [this]
    exact ⟨_, _, rfl, he _ _ h0⟩
  | x :: xs, I, ns, env, h0, hs, he => by
    obtain ⟨env1, hg, b, env2, hb, ht⟩ := hs 0 (by simp) _ env h0
    have hg : give g x (wipeE env own) = some env1 := hg
    have rest : ∀ ms e', I 1 ms e' → WR (lcLoop .sum own g ifs e xs (ms.map D.int).reverse e') Q := fun ms e' h => wr_sumFrom xs (fun i => I (i + 1)) h (fun i hi a env h => hs (i + 1) (by simpa using hi) a env h) fun a env h => he a env (by simpa using h)
    unfold lcLoop
    rw [hg]
    show WR ((ifs env1).bind _) Q
    rw [hb]
    cases b with
    | false => exact rest ns env2 ht
    | true =>
      obtain ⟨t, env3, h1, k, rfl, h4⟩ := ht
      show WR ((e env2).bind _) Q
      rw [h1]
      have := rest (ns ++ [k]) env3 h4
      rw [List.map_append, List.reverse_append] at this
      exact this
theorem wr_sum {own : List Nat} {g : G} {ifs e : E} {xs : List D} {Q : T → En → Prop} (I : Nat → List Int → En → Prop) (h0 : I 0 [] env)
    (hs : ∀ i (h : i < xs.length) ns env, I i ns env → ∃ env1, give g xs[i] (wipeE env own) = some env1 ∧ WR (lcIf cf ifs env1) fun b env2 => match b with
      | true => WR (ev cf e false env2) fun t env3 => ∃ k, t = .im (.int k) ∧ I (i + 1) (ns ++ [k]) env3
      | false => I (i + 1) ns env2)
    (he : ∀ ns env', I xs.length ns env' → Q (.im (.int ns.sum)) (unwipeE env env' own)) : WR (kLc cf .sum own g ifs e xs env) Q := by
  unfold kLc
  rw [wr_bnd]
  refine wr_sumFrom xs I (ns := []) h0 hs fun acc env' h => ?_
  exact ⟨_, _, rfl, he acc env' h⟩
/-! all(.. for ..) -/
theorem wr_allFrom {own : List Nat} {g : G} {ifs : En → Res Bool} {e : En → Res T} {Q : T → En → Prop} : ∀ (xs : List D) (I : Nat → En → Prop) {acc : List D} {env : En}, I 0 env →
    (∀ i (h : i < xs.length) env, I i env → ∃ env1, give g xs[i] (wipeE env own) = some env1 ∧ WR (ifs env1) fun b env2 => match b with
      | true => WR (e env2) fun t env3 => ∃ c, t = .im (.bl c) ∧ (c = true → I (i + 1) env3) ∧ (c = false → Q (.im (.bl false)) env3)
      | false => I (i + 1) env2) →
    (∀ env, I xs.length env → Q (.im (.bl true)) env) → WR (lcLoop .all own g ifs e xs acc env) Q
  | [], I, acc, env, h0, hs, he => ⟨_, _, rfl, he _ h0⟩
  | x :: xs, I, acc, env, h0, hs, he => by
    obtain ⟨env1, hg, b, env2, hb, ht⟩ := hs 0 (by simp) env h0
    have hg : give g x (wipeE env own) = some env1 := hg
    have rest : ∀ acc e', I 1 e' → WR (lcLoop .all own g ifs e xs acc e') Q := fun acc e' h => wr_allFrom xs (fun i => I (i + 1)) h (fun i hi env h => hs (i + 1) (by simpa using hi) env h) fun env h => he env (by simpa using h)
    unfold lcLoop
    rw [hg]
    show WR ((ifs env1).bind _) Q
    rw [hb]
    cases b with
    | false => exact rest acc env2 ht
    | true =>
      obtain ⟨t, env3, h1, c, rfl, h4, h5⟩ := ht
      show WR ((e env2).bind _) Q
      rw [h1]
      cases c with
      | true => exact rest [] env3 (h4 rfl)
      | false => exact ⟨_, _, rfl, h5 rfl⟩
theorem wr_all {own : List Nat} {g : G} {ifs e : E} {xs : List D} {Q : T → En → Prop} (I : Nat → En → Prop) (h0 : I 0 env)
    (hs : ∀ i (h : i < xs.length) env', I i env' → ∃ env1, give g xs[i] (wipeE env' own) = some env1 ∧ WR (lcIf cf ifs env1) fun b env2 => match b with
      | true => WR (ev cf e false env2) fun t env3 => ∃ c, t = .im (.bl c) ∧ (c = true → I (i + 1) env3) ∧ (c = false → Q (.im (.bl false)) (unwipeE env env3 own))
      | false => I (i + 1) env2)
    (he : ∀ env', I xs.length env' → Q (.im (.bl true)) (unwipeE env env' own)) : WR (kLc cf .all own g ifs e xs env) Q := by
  unfold kLc
  rw [wr_bnd]
  refine wr_allFrom xs I h0 (fun i hi env' h => ?_) fun env' h => ⟨_, _, rfl, he env' h⟩
  obtain ⟨env1, h1, h2⟩ := hs i hi env' h
  refine ⟨env1, h1, h2.mono fun b env2 q => ?_⟩
  cases b with
  | false => exact q
  | true => exact q.mono fun t env3 ⟨c, h3, h4, h5⟩ => ⟨c, h3, h4, fun hc => ⟨_, _, rfl, h5 hc⟩⟩
end
end SwP
namespace SwP
open Sw
section
variable {cf : CF} {env : En}
theorem lcIf_no {a : E} : lcIf cf (.no a) env = tst cf (.no a) env := rfl
theorem lcIf_cmp {o : COp} {a b : E} : lcIf cf (.cmp o a b) env = tst cf (.cmp o a b) env := rfl
theorem lcIf_chain {o p : COp} {a b c : E} : lcIf cf (.chain o p a b c) env = tst cf (.chain o p a b c) env := rfl
theorem lcIf_an {a b : E} : lcIf cf (.an a b) env = tst cf (.an a b) env := rfl
theorem lcIf_oo {a b : E} : lcIf cf (.oo a b) env = tst cf (.oo a b) env := rfl
theorem lcIf_call {f : Nat} {a : E} : lcIf cf (.call f a) env = tst cf (.call f a) env := rfl
end
theorem flat_nums {l : List Nat} : D.flat (.lst (nums l)) = true := (Fine.lst (n := 0) fine_nums).flat (by omega)
theorem flat_numsT {l : List Nat} : D.flat (.tup (nums l)) = true := (Fine.tup (n := 0) fine_nums).flat (by omega)
theorem c_neNil {l : List Nat} : cmpop .ne (.nu (.l (nums l))) (.nu (.l [])) = some (!l.isEmpty) := by
  show (if (D.lst (nums l)).flat && (D.lst []).flat then some (!D.eq (.lst (nums l)) (.lst [])) else none) = _
  rw [flat_nums]
  cases l <;> rfl
theorem c_neNN : cmpop .ne (.nu (.l [])) (.nu (.l [])) = some false := rfl
theorem c_eqNN : cmpop .eq (.nu (.l [])) (.nu (.l [])) = some true := rfl
end SwP
namespace SwP
open Sw
theorem pl_int {i : Int} : D.pl (.int i) = true := rfl
theorem pl_nums {l : List Nat} : (nums l).all D.pl = true := by
  rw [List.all_eq_true]
  intro x hx
  simp only [nums, List.mem_map] at hx
  obtain ⟨a, _, rfl⟩ := hx
  rfl
theorem any_nums {l : List Nat} {n : Nat} : ((nums l).any fun y => D.eq y (.int (n : Int))) = decide (n ∈ l) := by
  induction l with
  | nil => rfl
  | cons a l ih =>
    rw [nums_cons, List.any_cons, ih]
    simp only [D.eq, List.mem_cons]
    rw [Bool.eq_iff_iff]
    simp only [Bool.or_eq_true, beq_iff_eq, decide_eq_true_eq]
    rw [show ((a : Int) = (n : Int)) ↔ (n = a) by omega]
theorem c_inT {l : List Nat} {n : Nat} : cmpop .inn (.im (.int (n : Int))) (.im (.tup (nums l))) = some (decide (n ∈ l)) := by
  show (if D.pl (.int (n : Int)) && (nums l).all D.pl then some ((nums l).any fun y => D.eq y (.int (n : Int))) else none) = _
  rw [pl_int, pl_nums, any_nums]
  rfl
theorem c_ninT {l : List Nat} {n : Nat} : cmpop .nin (.im (.int (n : Int))) (.im (.tup (nums l))) = some (!decide (n ∈ l)) := by
  show (if D.pl (.int (n : Int)) && (nums l).all D.pl then some (!(nums l).any fun y => D.eq y (.int (n : Int))) else none) = _
  rw [pl_int, pl_nums, any_nums]
  rfl
end SwP
namespace SwP
open Sw
theorem findIx_nums {n : Nat} : ∀ {l : List Nat}, n ∈ l → findIx (.int (n : Int)) (nums l) = some (l.idxOf n)
  | [], h => by cases h
  | a :: l, h => by
    rw [nums_cons, findIx]
    by_cases ha : a = n
    · subst ha
      simp [D.eq]
    · have hd : D.eq (.int (a : Int)) (.int (n : Int)) = false := by
        simp only [D.eq, beq_eq_false_iff_ne]
        omega
      have hm : n ∈ l := (List.mem_cons.mp h).resolve_left fun e => ha e.symm
      rw [hd, findIx_nums hm, List.idxOf_cons]
      have hb : (a == n) = false := by simpa using ha
      rw [hb]
      rfl
theorem ix_nums {l : List Nat} {n : Nat} (h : n ∈ l) : mtV .index (.im (.tup (nums l))) [.int (n : Int)] = some (.im (.int (l.idxOf n : Nat))) :=
  mtV_ix pl_int pl_nums (findIx_nums h)
theorem lix_nums {k : Nat} {b : Bool} {env : En} {l : List Nat} {n : Nat} (h : n ∈ l) : mtW .lindex k [.int (n : Int)] env (some (.mu b (.l (nums l)))) = .ok (.im (.int (l.idxOf n : Nat))) (setW env k (.mu b (.l (nums l)))) :=
  mt_lix pl_int pl_nums (findIx_nums h)
end SwP

set_option linter.all false
set_option maxRecDepth 100000
/-! repr of small data; orders as lists. -/
namespace SwP
open Sw
/-! ### repr -/
def Rp (d : D) (w : Nat) : Prop := d.shw = true ∧ (∀ c ∈ d.repr, c < 1114112) ∧ d.repr.length ≤ w
theorem nat_tab : ∀ n : Fin 1000, (intCodes (n.1 : Int)).length ≤ 3 ∧ (intCodes (n.1 : Int)).all (fun c => decide (c < 1114112)) = true := by decide +kernel
theorem rp_int {n : Nat} (h : n < 1000) : Rp (.int (n : Int)) 3 := by
  have t := nat_tab ⟨n, h⟩
  refine ⟨?_, ?_, ?_⟩
  · simp only [D.shw, decide_eq_true_eq]
    have h1 : ((n : Int)).natAbs = n := Int.natAbs_natCast n
    rw [h1]
    exact Nat.lt_of_lt_of_le h (Nat.le_trans (show 1000 ≤ 2 ^ 10 by decide) (Nat.pow_le_pow_right (by omega) (by omega)))
  · simp only [D.repr]
    intro c hc
    exact of_decide_eq_true (List.all_eq_true.mp t.2 c hc)
  · simp only [D.repr]
    exact t.1
theorem shws_of {xs : List D} (h : ∀ x ∈ xs, D.shw x = true) : D.shws xs = true := by
  induction xs with
  | nil => simp [D.shws]
  | cons x xs ih =>
    simp only [D.shws, Bool.and_eq_true]
    exact ⟨h x (by simp), ih fun y hy => h y (by simp [hy])⟩
theorem reprs_map : ∀ xs : List D, D.reprs xs = xs.map D.repr
  | [] => by simp [D.reprs]
  | x :: xs => by simp only [D.reprs, List.map_cons, reprs_map xs]
theorem join_mem {sep : List Nat} {c : Nat} : ∀ {xss : List (List Nat)}, c ∈ joinCodes sep xss → c ∈ sep ∨ ∃ xs ∈ xss, c ∈ xs
  | [], h => by simp [joinCodes] at h
  | [x], h => by simp only [joinCodes] at h; exact .inr ⟨x, by simp, h⟩
  | x :: y :: xs, h => by
    simp only [joinCodes, List.append_assoc, List.mem_append] at h
    rcases h with h | h | h
    · exact .inr ⟨x, by simp, h⟩
    · exact .inl h
    · rcases join_mem h with h | ⟨z, hz, hc⟩
      · exact .inl h
      · exact .inr ⟨z, by simp only [List.mem_cons] at hz ⊢; exact .inr hz, hc⟩
theorem join_len {sep : List Nat} {w : Nat} : ∀ {xss : List (List Nat)}, (∀ xs ∈ xss, xs.length ≤ w) → (joinCodes sep xss).length ≤ xss.length * (w + sep.length)
  | [], _ => by simp [joinCodes]
  | [x], h => by
    simp only [joinCodes, List.length_singleton, Nat.one_mul]
    have := h x (by simp)
    omega
  | x :: y :: xs, h => by
    have h1 := h x (by simp)
    have h2 := join_len (sep := sep) (xss := y :: xs) fun z hz => h z (List.mem_cons_of_mem _ hz)
    simp only [joinCodes, List.length_append, List.length_cons] at h2 ⊢
    rw [Nat.add_mul (xs.length + 1) 1]
    omega
theorem rp_tup {xs : List D} {w : Nat} (h : ∀ x ∈ xs, Rp x w) : Rp (.tup xs) (xs.length * (w + 2) + 3) := by
  refine ⟨?_, ?_, ?_⟩
  · simp only [D.shw]
    exact shws_of fun x hx => (h x hx).1
  · simp only [D.repr, reprs_map]
    intro c hc
    simp only [List.mem_append, List.mem_singleton] at hc
    rcases hc with (hc | hc) | hc
    · omega
    · rcases join_mem hc with hc | ⟨z, hz, hc⟩
      · simp only [List.mem_cons, List.not_mem_nil, or_false] at hc
        omega
      · obtain ⟨x, hx, rfl⟩ := List.mem_map.mp hz
        exact (h x hx).2.1 c hc
    · split at hc
      · simp only [List.mem_cons, List.not_mem_nil, or_false] at hc
        omega
      · simp only [List.mem_cons, List.not_mem_nil, or_false] at hc
        omega
  · simp only [D.repr, reprs_map, List.length_append, List.length_singleton]
    have := join_len (sep := [44, 32]) (w := w) (xss := xs.map D.repr) fun z hz => by
      obtain ⟨x, hx, rfl⟩ := List.mem_map.mp hz
      exact (h x hx).2.2
    rw [List.length_map] at this
    have h2 : ([44, 32] : List Nat).length = 2 := rfl
    rw [h2] at this
    have h3 : (if (xs.length == 1) = true then ([44, 41] : List Nat) else [41]).length ≤ 2 := by split <;> simp
    omega
theorem Rp.mono {d : D} {w v : Nat} (h : Rp d w) (hv : w ≤ v) : Rp d v := ⟨h.1, h.2.1, Nat.le_trans h.2.2 hv⟩
theorem repr_of {xs : List D} {w n : Nat} (h : Rp (.tup xs) w) (hw : w ≤ 16777216) (hf : Fine n (.tup xs)) (hn : n ≤ 60) : bifn .repr [.im (.tup xs)] = some (.im (.str (D.repr (.tup xs)))) := by
  show reprT (.im (.tup xs)) = _
  have h1 := h.1
  have h3 := h.2.2
  have h4 := hf.dep
  have e : ((D.tup xs).isSeq && (D.tup xs).shw && decide ((D.tup xs).repr.length ≤ SL) && decide ((D.tup xs).dep ≤ 60)) = true := by
    have a : (D.tup xs).repr.length ≤ SL := Nat.le_trans h3 hw
    have b : (D.tup xs).dep ≤ 60 := Nat.le_trans h4 hn
    rw [h1, decide_eq_true a, decide_eq_true b]
    rfl
  show (if ((D.tup xs).isSeq && (D.tup xs).shw && decide ((D.tup xs).repr.length ≤ SL) && decide ((D.tup xs).dep ≤ 60)) = true then some (T.im (.str (D.tup xs).repr)) else none) = _
  rw [if_pos e]
theorem flat_repr {d : D} {w : Nat} (h : Rp d w) : D.flat (.str d.repr) = true := by
  unfold D.flat
  have : D.noTy (.str d.repr) = true := by
    simp only [D.noTy]
    exact List.all_eq_true.mpr fun c hc => decide_eq_true (h.2.1 c hc)
  rw [this]
  simp [D.dep]
theorem ne_repr {d : D} {w : Nat} (h : Rp d w) : cmpop .ne (.im (.str d.repr)) (.im (.str d.repr)) = some false := c_ne_same (flat_repr h)
theorem eq_repr {d : D} {w : Nat} (h : Rp d w) : cmpop .eq (.im (.str d.repr)) (.im (.str d.repr)) = some true := c_eq_same (flat_repr h)
theorem rp_nums {l : List Nat} (h : ∀ k ∈ l, k < 1000) : Rp (.tup (nums l)) (l.length * 5 + 3) := by
  have := rp_tup (xs := nums l) (w := 3) fun x hx => by
    simp only [nums, List.mem_map] at hx
    obtain ⟨a, ha, rfl⟩ := hx
    exact rp_int (h a ha)
  rw [nums_len] at this
  exact this
theorem repr_nums {l : List Nat} (h : ∀ k ∈ l, k < 1000) (hl : l.length ≤ 1000) : bifn .repr [.im (.tup (nums l))] = some (.im (.str (D.repr (.tup (nums l))))) := repr_of (rp_nums h) (by omega) (.tup (n := 0) fine_nums) (by omega)
theorem ne_reprN {l : List Nat} (h : ∀ k ∈ l, k < 1000) : cmpop .ne (.im (.str (D.repr (.tup (nums l))))) (.im (.str (D.repr (.tup (nums l))))) = some false := ne_repr (rp_nums h)
theorem ne_numsT {l : List Nat} : cmpop .ne (.im (.tup (nums l))) (.im (.tup (nums l))) = some false := c_ne_same flat_numsT
theorem eq_numsT {l : List Nat} : cmpop .eq (.im (.tup (nums l))) (.im (.tup (nums l))) = some true := c_eq_same flat_numsT
/-! ### orders -/
def Ord (n : Nat) (p : List Nat) : Prop := p.Perm (List.range n)
section
variable {n : Nat} {p q : List Nat}
theorem Ord.len (h : Ord n p) : p.length = n := by rw [List.Perm.length_eq h, List.length_range]
theorem Ord.mem (h : Ord n p) {k : Nat} : k ∈ p ↔ k < n := by rw [List.Perm.mem_iff h, List.mem_range]
theorem Ord.nodup (h : Ord n p) : p.Nodup := (List.Perm.nodup_iff h).mpr List.nodup_range
theorem Ord.lt (h : Ord n p) {i : Nat} (hi : i < p.length) : p[i] < n := h.mem.mp (List.getElem_mem hi)
theorem perm_of_in : ∀ (p l : List Nat), p.Nodup → (∀ x ∈ p, x ∈ l) → l.length ≤ p.length → p.Perm l
  | [], l, _, _, hl => by
    have : l = [] := List.eq_nil_of_length_eq_zero (by simpa using hl)
    rw [this]
  | a :: p, l, hn, hs, hl => by
    have ha : a ∈ l := hs a (by simp)
    have hn' := List.nodup_cons.mp hn
    have ih := perm_of_in p (l.erase a) hn'.2 (fun x hx => (List.mem_erase_of_ne (show x ≠ a from fun e => hn'.1 (by rw [← e]; exact hx))).mpr (hs x (by simp [hx]))) (by
      rw [List.length_erase_of_mem ha]
      simp only [List.length_cons] at hl
      omega)
    exact (ih.cons a).trans (List.perm_cons_erase ha).symm
theorem ord_of (hl : p.length = n) (hn : p.Nodup) (hm : ∀ k ∈ p, k < n) : Ord n p := by
  exact perm_of_in p _ hn (fun k hk => List.mem_range.mpr (hm k hk)) (by rw [hl, List.length_range]; exact Nat.le_refl _)
/-- where k stands -/
def invL (p : List Nat) : List Nat := (List.range p.length).map fun k => p.idxOf k
/-- by p, then by q -/
def comp (p q : List Nat) : List Nat := p.map fun k => q.getD k 0
theorem invL_len : (invL p).length = p.length := by simp [invL]
theorem comp_len : (comp p q).length = p.length := by simp [comp]
theorem idx_lt (h : Ord n p) {k : Nat} (hk : k < n) : p.idxOf k < p.length := List.idxOf_lt_length_of_mem (h.mem.mpr hk)
theorem get_idx (h : Ord n p) {k : Nat} (hk : k < n) : p[p.idxOf k]'(idx_lt h hk) = k := List.getElem_idxOf _
theorem idx_get (h : Ord n p) {i : Nat} (hi : i < p.length) : p.idxOf p[i] = i := List.Nodup.idxOf_getElem h.nodup _ hi
theorem idx_of (h : Ord n p) {i k : Nat} (hi : i < p.length) (e : p[i] = k) : p.idxOf k = i := by rw [← e]; exact idx_get h hi
theorem invL_get (h : Ord n p) {k : Nat} (hk : k < (invL p).length) : (invL p)[k] = p.idxOf k := by simp [invL]
theorem invL_ord (h : Ord n p) : Ord n (invL p) := by
  refine ord_of (by rw [invL_len, h.len]) ?_ fun k hk => ?_
  · unfold invL
    rw [List.nodup_iff_pairwise_ne, List.pairwise_map]
    refine List.Pairwise.imp_of_mem (fun {a b} ha hb hab e => hab ?_) (List.nodup_iff_pairwise_ne.mp (List.nodup_range (n := p.length)))
    rw [List.mem_range, h.len] at ha hb
    have e1 := get_idx h ha
    have e2 := get_idx h hb
    rw [← e1, ← e2]
    congr 1
  · simp only [invL, List.mem_map, List.mem_range] at hk
    obtain ⟨a, ha, rfl⟩ := hk
    rw [h.len] at ha
    have := idx_lt h ha
    rw [h.len] at this
    exact this
theorem comp_get (h : Ord n p) (hq : Ord n q) {i : Nat} (hi : i < (comp p q).length) : (comp p q)[i] = q[p[i]'(by simpa [comp] using hi)]'(by rw [hq.len]; exact h.lt _) := by
  have hl : p[i]'(by simpa [comp] using hi) < q.length := by rw [hq.len]; exact h.lt _
  simp only [comp, List.getElem_map, List.getD_eq_getElem?_getD, List.getElem?_eq_getElem hl, Option.getD_some]
theorem comp_ord (h : Ord n p) (hq : Ord n q) : Ord n (comp p q) := by
  have hpi : ∀ k ∈ p, k < q.length := fun k hk => by rw [hq.len]; exact h.mem.mp hk
  refine ord_of (by rw [comp_len, h.len]) ?_ fun k hk => ?_
  · unfold comp
    rw [List.nodup_iff_pairwise_ne, List.pairwise_map]
    refine List.Pairwise.imp_of_mem (fun {a b} ha hb hab e => hab ?_) (List.nodup_iff_pairwise_ne.mp h.nodup)
    have la := hpi a ha
    have lb := hpi b hb
    rw [List.getD_eq_getElem?_getD, List.getD_eq_getElem?_getD, List.getElem?_eq_getElem la, List.getElem?_eq_getElem lb] at e
    have e : q[a] = q[b] := e
    rw [← idx_get hq la, ← idx_get hq lb, e]
  · simp only [comp, List.mem_map] at hk
    obtain ⟨a, ha, rfl⟩ := hk
    have la := hpi a ha
    rw [List.getD_eq_getElem?_getD, List.getElem?_eq_getElem la]
    exact hq.lt la
theorem range_ord : Ord n (List.range n) := List.Perm.refl _
theorem comp_inv (h : Ord n p) : comp p (invL p) = List.range n := by
  refine List.ext_getElem (by rw [comp_len, h.len, List.length_range]) fun i h1 h2 => ?_
  rw [comp_get h (invL_ord h) h1, invL_get h, List.getElem_range]
  exact idx_get h _
theorem inv_comp (h : Ord n p) : comp (invL p) p = List.range n := by
  refine List.ext_getElem (by rw [comp_len, invL_len, h.len, List.length_range]) fun i h1 h2 => ?_
  rw [comp_get (invL_ord h) h h1, List.getElem_range]
  have hi : i < n := by simpa using h2
  have e : (invL p)[i]'(by simpa [comp] using h1) = p.idxOf i := invL_get h _
  have : p[(invL p)[i]'(by simpa [comp] using h1)]'(by rw [e]; exact idx_lt h hi) = p[p.idxOf i]'(idx_lt h hi) := by congr 1
  rw [this]
  exact get_idx h hi
theorem inv_inv (h : Ord n p) : invL (invL p) = p := by
  have h2 := invL_ord h
  refine List.ext_getElem (by rw [invL_len, invL_len]) fun i h1 hi => ?_
  rw [invL_get h2]
  have hn : p[i] < n := h.lt hi
  refine idx_of h2 (i := p[i]) (by rw [invL_len, h.len]; exact hn) ?_
  rw [invL_get h]
  exact idx_get h hi
theorem inv_of_comp (h : Ord n p) (hq : Ord n q) : invL (comp p q) = comp (invL q) (invL p) := by
  have hc := comp_ord h hq
  refine List.ext_getElem (by rw [invL_len, comp_len, comp_len, invL_len, h.len, hq.len]) fun i h1 h2 => ?_
  have hi : i < n := by rw [invL_len, comp_len, h.len] at h1; exact h1
  rw [invL_get hc, comp_get (invL_ord hq) (invL_ord h) h2]
  have e1 : (invL q)[i]'(by simpa [comp] using h2) = q.idxOf i := invL_get hq _
  have lq : q.idxOf i < n := by have := idx_lt hq hi; rw [hq.len] at this; exact this
  have e2 : (invL p)[(invL q)[i]'(by simpa [comp] using h2)]'(by rw [e1, invL_len, h.len]; exact lq) = p.idxOf (q.idxOf i) := by
    rw [invL_get h]
    rw [e1]
  rw [e2]
  refine idx_of hc (by rw [comp_len]; exact idx_lt h lq) ?_
  rw [comp_get h hq]
  have e3 : p[p.idxOf (q.idxOf i)]'(idx_lt h lq) = q.idxOf i := get_idx h lq
  have : q[p[p.idxOf (q.idxOf i)]'(idx_lt h lq)]'(by rw [e3]; exact idx_lt hq hi) = q[q.idxOf i]'(idx_lt hq hi) := by congr 1
  rw [this]
  exact get_idx hq hi
end
end SwP

set_option linter.all false
set_option maxRecDepth 100000
namespace SwK
open Sw SwP
/-- a state of the law's draws -/
def StB (d : List D) : Prop := ∃ x0 x1 : Int, d = [.int x0, .int x1]
theorem drawB (n : Nat) {d : List D} (hd : StB d) {m : Int} (hm0 : 0 < m) (hm2 : m < 1000000) :
    Calls (callD prog (n + 1)) 4 [.mu true (.l d), .im (.int m)] fun t ws => ∃ (r : Nat) (d' : List D), (r : Int) < m ∧ t = .im (.int (r : Int)) ∧ ws = [.mu true (.l d'), .im (.int m)] ∧ StB d' := by
  obtain ⟨x0, x1, rfl⟩ := hd
  refine calls_of (fn := f_l_draw) rfl rfl ?_
  have hmm : m < 18446744073709551616 := by omega
  show WR (sx _ f_l_draw.body [.mu true (.l [.int x0, .int x1]), .im (.int m), .un, .un]) _
  unfold f_l_draw
  have fin : ∀ r : Int, (((r % m).toNat : Nat) : Int) < m ∧ T.im (.int (r % m)) = T.im (.int (((r % m).toNat : Nat) : Int)) := fun r => by
    have h1 := Int.emod_lt_of_pos r hm0
    have h2 := Int.emod_nonneg r (show m ≠ 0 by omega)
    exact ⟨by omega, by rw [Int.toNat_of_nonneg h2]⟩
  by_cases h : 0 < x0
  · simp -implicitDefEqProofs only [SwP.bnd_ok, SwP.bnd_bad, SwP.rof_some, SwP.ev_c, SwP.ev_v, SwP.kOp2, SwP.kOp, SwP.ev_op, SwP.kCmp2, SwP.kCmp, SwP.ev_cmp, SwP.cmpR_eq, SwP.mapB, SwP.mapD, SwP.mapO, SwP.kChain, SwP.kChain2, SwP.kChain3, SwP.kChain4, SwP.ev_chain, SwP.kNeg, SwP.ev_neg, SwP.tst_eq, SwP.kTru, SwP.kNo, SwP.ev_no, SwP.kAn, SwP.kAn2, SwP.ev_an, SwP.kOo, SwP.kOo2, SwP.ev_oo, SwP.kIfE, SwP.ev_ite, SwP.ev_tup, SwP.ev_lst, SwP.kIx, SwP.kIx2, SwP.ev_ix, SwP.kSl, SwP.kSl2, SwP.kSl3, SwP.ev_sl, SwP.kRv, SwP.ev_rv, SwP.kCall_eq, SwP.dcIf_t, SwP.dcAt_eq, SwP.dcBack_eq, SwP.ev_call, SwP.kBi, SwP.ev_len, SwP.ev_tuple, SwP.ev_list, SwP.ev_sorted, SwP.ev_sum, SwP.ev_repr, SwP.ev_isinst, SwP.ev_max, SwP.ev_min, SwP.ev_set, SwP.ev_int, SwP.kMtV2, SwP.kMtV, SwP.mtAt_t, SwP.mtAt_f, SwP.kMtS_eq, SwP.ev_mt, SwP.ev_lc, SwP.ev_col, SwP.kCol, SwP.evs_nil, SwP.evs_cons, SwP.kEvs, SwP.kEvs2, SwP.evt_nil, SwP.evt_cons, SwP.kEvt, SwP.kEvt2, SwP.evo_nil, SwP.evo_c, SwP.evo_v, SwP.evo_op, SwP.evo_neg, SwP.evo_call, SwP.kBd, SwP.evi_range, SwP.evi_zip, SwP.evi_enum, SwP.evi_rev, SwP.evi_v, SwP.evi_c, SwP.evi_ix, SwP.evi_sl, SwP.evi_tup, SwP.evi_lst, SwP.evi_call, SwP.evi_op, SwP.evi_rv, SwP.evi_lc, SwP.evi_sorted, SwP.kSeqOf, SwP.kWalk, SwP.eva_nil, SwP.eva_v, SwP.eva_c, SwP.eva_op, SwP.eva_neg, SwP.eva_ix, SwP.eva_sl, SwP.eva_rv, SwP.eva_tup, SwP.eva_lst, SwP.eva_call, SwP.eva_bi, SwP.eva_lc, SwP.eva_col, SwP.eva_ite, SwP.eva_mt, SwP.kAg, SwP.kAg2, SwP.kAgD, SwP.kAgM, SwP.agM2_mu, SwP.agV_mu, SwP.agV_im, SwP.agV_fz, SwP.sx_skip, SwP.sx_seq, SwP.kSeq_nx, SwP.kSeq_rt, SwP.kSeq_bk, SwP.kSeq_ct, SwP.kPut, SwP.kGive, SwP.sx_asgN, SwP.sx_asgT, SwP.kSix, SwP.kSix2, SwP.sixAt_t, SwP.sx_six, SwP.kSwp, SwP.kSwp2, SwP.kSwp4, SwP.kSwp5, SwP.swpAt_t, SwP.sx_swp, SwP.augP_s, SwP.kAug2_int, SwP.kAug, SwP.sx_aug, SwP.kEx, SwP.sx_ex, SwP.kRet, SwP.sx_retv, SwP.sx_ite, SwP.kIte_t, SwP.kIte_f, SwP.sx_for, SwP.sx_wh, SwP.sx_brk, SwP.sx_cont, SwP.rt_c, SwP.rt_op, SwP.rt_cmp, SwP.rt_chain, SwP.rt_neg, SwP.rt_no, SwP.rt_an, SwP.rt_oo, SwP.rt_ite, SwP.rt_tup, SwP.rt_lst, SwP.rt_ix, SwP.rt_sl, SwP.rt_rv, SwP.rt_call, SwP.rt_bi, SwP.rt_mt, SwP.rt_lc, SwP.rt_col, SwP.fr_im, SwP.fr_un, SwP.fr_mu, SwP.canSet_zero, SwP.canSet_succ, SwP.put_eq, SwP.putIf_t, SwP.putF_s, SwP.setW_zero, SwP.setW_succ, SwP.ofT_im, SwP.ofT_nu, SwP.rdV_eq, SwP.rdW_im, SwP.rdW_fz, SwP.rdW_l, SwP.rdW_s, SwP.rdW_kf, SwP.rdW_kt, SwP.isMu_eq, SwP.isMuW_l, SwP.isMuW_pop, SwP.isMuW_ix, SwP.isMuW_lix, SwP.isMuW_add, SwP.isMuW_im, SwP.isMuW_fz, SwP.storeAt_im, SwP.storeW_0, SwP.storeW_1, SwP.aug_add, SwP.aug_sub, SwP.retV_m, SwP.retV_im, SwP.retV_mt, SwP.retV_fz, SwP.agsOk_nil, SwP.agsOk_n, SwP.agsOk_s, SwP.ws_nil, SwP.ws_cons, SwP.gb_nil, SwP.gb_n, SwP.gb_s, SwP.gbW_m, SwP.gbW_fT, SwP.gbW_fF, SwP.give_n, SwP.give_t, SwP.give_l, SwP.give_p, SwP.gives_nil, SwP.gives_cons, SwP.givesK_s, SwP.wipe_nil, SwP.wipe_cons, SwP.unw_nil, SwP.unw_cons, SwP.b_add, SwP.b_sub, SwP.b_mul, SwP.mulOk_l, SwP.mulOk_r, SwP.b_fdiv, SwP.b_mod, SwP.b_pow18, SwP.c_lt, SwP.c_le, SwP.c_gt, SwP.c_ge, SwP.c_eqI, SwP.c_neI, SwP.c_isN, SwP.c_isnN, SwP.t_bl, SwP.t_int, SwP.t_tup, SwP.t_lst, SwP.t_nu, SwP.t_non, SwP.d_im, SwP.d_nu, SwP.intOf_i, SwP.seq_t, SwP.seq_l, SwP.seq_n, SwP.ix_t, SwP.ix_l, SwP.ix_n, SwP.atIx_0, SwP.atIx_1, SwP.atIx_2, SwP.atIx_m1, SwP.sl_t, SwP.sl_l, SwP.sl_n, SwP.rv_t, SwP.rv_l, SwP.rv_n, SwP.int_b, SwP.int_i, SwP.len_t, SwP.len_l, SwP.len_n, SwP.tuple_t, SwP.tuple_l, SwP.tuple_n, SwP.list_t, SwP.list_l, SwP.list_n, SwP.max_i, SwP.min_i, SwP.isi_ii, SwP.isi_ib, SwP.isi_bb, SwP.isi_tt, SwP.w_range, SwP.w_zipT, SwP.w_zipL, SwP.w_enumT, SwP.w_enumL, SwP.w_revT, List.getElem?_cons_zero, List.getElem?_cons_succ, List.contains_nil, List.contains_cons, Bool.not_true, Bool.not_false, Bool.true_and, Bool.and_true, Bool.false_or, Bool.or_false, List.getD_cons_zero, List.getD_cons_succ, Option.map_some, Int.reduceNeg, Nat.reduceLT, Nat.reduceLeDiff, Int.reduceLT, Int.reduceLE, Int.reduceEq, Int.reduceAdd, Int.reduceSub, Int.reduceMul, Nat.reduceAdd, Nat.reduceBEq, Nat.reduceEqDiff, decide_true, decide_false, SwP.mkTup_eq, SwP.mkLst_eq, SwP.b_addT, SwP.b_addNN, SwP.b_addIN, SwP.b_addNI, SwP.mt_append, SwP.mt_popAt, SwP.mt_pop, SwP.col_t, SwP.col_l, List.length_cons, List.length_nil, SwP.nums_len, SwP.prs_len, SwP.upto_len, SL, SwP.range_1, SwP.sorted_prs, SwP.sorted_prsI, SwP.lcIf_nil, SwP.lcIf_no, SwP.lcIf_cmp, SwP.lcIf_chain, SwP.lcIf_an, SwP.lcIf_oo, SwP.lcIf_call, SwP.c_neNN, SwP.c_eqNN, SwP.cut_takeI, SwP.cut_dropI, SwP.cut_m1, Int.reduceToNat, eq_self, Int.neg_neg, Int.toNat_natCast, h, hm0, hmm, wr_ok]
    exact ⟨(x0 % m).toNat, _, (fin x0).1, (fin x0).2, rfl, _, _, rfl⟩
  · simp -implicitDefEqProofs only [SwP.bnd_ok, SwP.bnd_bad, SwP.rof_some, SwP.ev_c, SwP.ev_v, SwP.kOp2, SwP.kOp, SwP.ev_op, SwP.kCmp2, SwP.kCmp, SwP.ev_cmp, SwP.cmpR_eq, SwP.mapB, SwP.mapD, SwP.mapO, SwP.kChain, SwP.kChain2, SwP.kChain3, SwP.kChain4, SwP.ev_chain, SwP.kNeg, SwP.ev_neg, SwP.tst_eq, SwP.kTru, SwP.kNo, SwP.ev_no, SwP.kAn, SwP.kAn2, SwP.ev_an, SwP.kOo, SwP.kOo2, SwP.ev_oo, SwP.kIfE, SwP.ev_ite, SwP.ev_tup, SwP.ev_lst, SwP.kIx, SwP.kIx2, SwP.ev_ix, SwP.kSl, SwP.kSl2, SwP.kSl3, SwP.ev_sl, SwP.kRv, SwP.ev_rv, SwP.kCall_eq, SwP.dcIf_t, SwP.dcAt_eq, SwP.dcBack_eq, SwP.ev_call, SwP.kBi, SwP.ev_len, SwP.ev_tuple, SwP.ev_list, SwP.ev_sorted, SwP.ev_sum, SwP.ev_repr, SwP.ev_isinst, SwP.ev_max, SwP.ev_min, SwP.ev_set, SwP.ev_int, SwP.kMtV2, SwP.kMtV, SwP.mtAt_t, SwP.mtAt_f, SwP.kMtS_eq, SwP.ev_mt, SwP.ev_lc, SwP.ev_col, SwP.kCol, SwP.evs_nil, SwP.evs_cons, SwP.kEvs, SwP.kEvs2, SwP.evt_nil, SwP.evt_cons, SwP.kEvt, SwP.kEvt2, SwP.evo_nil, SwP.evo_c, SwP.evo_v, SwP.evo_op, SwP.evo_neg, SwP.evo_call, SwP.kBd, SwP.evi_range, SwP.evi_zip, SwP.evi_enum, SwP.evi_rev, SwP.evi_v, SwP.evi_c, SwP.evi_ix, SwP.evi_sl, SwP.evi_tup, SwP.evi_lst, SwP.evi_call, SwP.evi_op, SwP.evi_rv, SwP.evi_lc, SwP.evi_sorted, SwP.kSeqOf, SwP.kWalk, SwP.eva_nil, SwP.eva_v, SwP.eva_c, SwP.eva_op, SwP.eva_neg, SwP.eva_ix, SwP.eva_sl, SwP.eva_rv, SwP.eva_tup, SwP.eva_lst, SwP.eva_call, SwP.eva_bi, SwP.eva_lc, SwP.eva_col, SwP.eva_ite, SwP.eva_mt, SwP.kAg, SwP.kAg2, SwP.kAgD, SwP.kAgM, SwP.agM2_mu, SwP.agV_mu, SwP.agV_im, SwP.agV_fz, SwP.sx_skip, SwP.sx_seq, SwP.kSeq_nx, SwP.kSeq_rt, SwP.kSeq_bk, SwP.kSeq_ct, SwP.kPut, SwP.kGive, SwP.sx_asgN, SwP.sx_asgT, SwP.kSix, SwP.kSix2, SwP.sixAt_t, SwP.sx_six, SwP.kSwp, SwP.kSwp2, SwP.kSwp4, SwP.kSwp5, SwP.swpAt_t, SwP.sx_swp, SwP.augP_s, SwP.kAug2_int, SwP.kAug, SwP.sx_aug, SwP.kEx, SwP.sx_ex, SwP.kRet, SwP.sx_retv, SwP.sx_ite, SwP.kIte_t, SwP.kIte_f, SwP.sx_for, SwP.sx_wh, SwP.sx_brk, SwP.sx_cont, SwP.rt_c, SwP.rt_op, SwP.rt_cmp, SwP.rt_chain, SwP.rt_neg, SwP.rt_no, SwP.rt_an, SwP.rt_oo, SwP.rt_ite, SwP.rt_tup, SwP.rt_lst, SwP.rt_ix, SwP.rt_sl, SwP.rt_rv, SwP.rt_call, SwP.rt_bi, SwP.rt_mt, SwP.rt_lc, SwP.rt_col, SwP.fr_im, SwP.fr_un, SwP.fr_mu, SwP.canSet_zero, SwP.canSet_succ, SwP.put_eq, SwP.putIf_t, SwP.putF_s, SwP.setW_zero, SwP.setW_succ, SwP.ofT_im, SwP.ofT_nu, SwP.rdV_eq, SwP.rdW_im, SwP.rdW_fz, SwP.rdW_l, SwP.rdW_s, SwP.rdW_kf, SwP.rdW_kt, SwP.isMu_eq, SwP.isMuW_l, SwP.isMuW_pop, SwP.isMuW_ix, SwP.isMuW_lix, SwP.isMuW_add, SwP.isMuW_im, SwP.isMuW_fz, SwP.storeAt_im, SwP.storeW_0, SwP.storeW_1, SwP.aug_add, SwP.aug_sub, SwP.retV_m, SwP.retV_im, SwP.retV_mt, SwP.retV_fz, SwP.agsOk_nil, SwP.agsOk_n, SwP.agsOk_s, SwP.ws_nil, SwP.ws_cons, SwP.gb_nil, SwP.gb_n, SwP.gb_s, SwP.gbW_m, SwP.gbW_fT, SwP.gbW_fF, SwP.give_n, SwP.give_t, SwP.give_l, SwP.give_p, SwP.gives_nil, SwP.gives_cons, SwP.givesK_s, SwP.wipe_nil, SwP.wipe_cons, SwP.unw_nil, SwP.unw_cons, SwP.b_add, SwP.b_sub, SwP.b_mul, SwP.mulOk_l, SwP.mulOk_r, SwP.b_fdiv, SwP.b_mod, SwP.b_pow18, SwP.c_lt, SwP.c_le, SwP.c_gt, SwP.c_ge, SwP.c_eqI, SwP.c_neI, SwP.c_isN, SwP.c_isnN, SwP.t_bl, SwP.t_int, SwP.t_tup, SwP.t_lst, SwP.t_nu, SwP.t_non, SwP.d_im, SwP.d_nu, SwP.intOf_i, SwP.seq_t, SwP.seq_l, SwP.seq_n, SwP.ix_t, SwP.ix_l, SwP.ix_n, SwP.atIx_0, SwP.atIx_1, SwP.atIx_2, SwP.atIx_m1, SwP.sl_t, SwP.sl_l, SwP.sl_n, SwP.rv_t, SwP.rv_l, SwP.rv_n, SwP.int_b, SwP.int_i, SwP.len_t, SwP.len_l, SwP.len_n, SwP.tuple_t, SwP.tuple_l, SwP.tuple_n, SwP.list_t, SwP.list_l, SwP.list_n, SwP.max_i, SwP.min_i, SwP.isi_ii, SwP.isi_ib, SwP.isi_bb, SwP.isi_tt, SwP.w_range, SwP.w_zipT, SwP.w_zipL, SwP.w_enumT, SwP.w_enumL, SwP.w_revT, List.getElem?_cons_zero, List.getElem?_cons_succ, List.contains_nil, List.contains_cons, Bool.not_true, Bool.not_false, Bool.true_and, Bool.and_true, Bool.false_or, Bool.or_false, List.getD_cons_zero, List.getD_cons_succ, Option.map_some, Int.reduceNeg, Nat.reduceLT, Nat.reduceLeDiff, Int.reduceLT, Int.reduceLE, Int.reduceEq, Int.reduceAdd, Int.reduceSub, Int.reduceMul, Nat.reduceAdd, Nat.reduceBEq, Nat.reduceEqDiff, decide_true, decide_false, SwP.mkTup_eq, SwP.mkLst_eq, SwP.b_addT, SwP.b_addNN, SwP.b_addIN, SwP.b_addNI, SwP.mt_append, SwP.mt_popAt, SwP.mt_pop, SwP.col_t, SwP.col_l, List.length_cons, List.length_nil, SwP.nums_len, SwP.prs_len, SwP.upto_len, SL, SwP.range_1, SwP.sorted_prs, SwP.sorted_prsI, SwP.lcIf_nil, SwP.lcIf_no, SwP.lcIf_cmp, SwP.lcIf_chain, SwP.lcIf_an, SwP.lcIf_oo, SwP.lcIf_call, SwP.c_neNN, SwP.c_eqNN, SwP.cut_takeI, SwP.cut_dropI, SwP.cut_m1, Int.reduceToNat, eq_self, Int.neg_neg, Int.toNat_natCast, h, hm0, hmm, wr_ok]
    exact ⟨_, _, (fin _).1, (fin _).2, rfl, _, _, rfl⟩
theorem beginB (n : Nat) (c : Int) : Calls (callD prog (n + 1)) 3 [.im (.int c)] fun t ws => ∃ d, t = .nu (.l d) ∧ ws = [.im (.int c)] ∧ StB d := by
  refine calls_of (fn := f_l_begin) rfl rfl ?_
  show WR (sx _ f_l_begin.body [.im (.int c), .un]) _
  unfold f_l_begin
  by_cases h : c < 1000000000000000000
  · simp -implicitDefEqProofs only [SwP.bnd_ok, SwP.bnd_bad, SwP.rof_some, SwP.ev_c, SwP.ev_v, SwP.kOp2, SwP.kOp, SwP.ev_op, SwP.kCmp2, SwP.kCmp, SwP.ev_cmp, SwP.cmpR_eq, SwP.mapB, SwP.mapD, SwP.mapO, SwP.kChain, SwP.kChain2, SwP.kChain3, SwP.kChain4, SwP.ev_chain, SwP.kNeg, SwP.ev_neg, SwP.tst_eq, SwP.kTru, SwP.kNo, SwP.ev_no, SwP.kAn, SwP.kAn2, SwP.ev_an, SwP.kOo, SwP.kOo2, SwP.ev_oo, SwP.kIfE, SwP.ev_ite, SwP.ev_tup, SwP.ev_lst, SwP.kIx, SwP.kIx2, SwP.ev_ix, SwP.kSl, SwP.kSl2, SwP.kSl3, SwP.ev_sl, SwP.kRv, SwP.ev_rv, SwP.kCall_eq, SwP.dcIf_t, SwP.dcAt_eq, SwP.dcBack_eq, SwP.ev_call, SwP.kBi, SwP.ev_len, SwP.ev_tuple, SwP.ev_list, SwP.ev_sorted, SwP.ev_sum, SwP.ev_repr, SwP.ev_isinst, SwP.ev_max, SwP.ev_min, SwP.ev_set, SwP.ev_int, SwP.kMtV2, SwP.kMtV, SwP.mtAt_t, SwP.mtAt_f, SwP.kMtS_eq, SwP.ev_mt, SwP.ev_lc, SwP.ev_col, SwP.kCol, SwP.evs_nil, SwP.evs_cons, SwP.kEvs, SwP.kEvs2, SwP.evt_nil, SwP.evt_cons, SwP.kEvt, SwP.kEvt2, SwP.evo_nil, SwP.evo_c, SwP.evo_v, SwP.evo_op, SwP.evo_neg, SwP.evo_call, SwP.kBd, SwP.evi_range, SwP.evi_zip, SwP.evi_enum, SwP.evi_rev, SwP.evi_v, SwP.evi_c, SwP.evi_ix, SwP.evi_sl, SwP.evi_tup, SwP.evi_lst, SwP.evi_call, SwP.evi_op, SwP.evi_rv, SwP.evi_lc, SwP.evi_sorted, SwP.kSeqOf, SwP.kWalk, SwP.eva_nil, SwP.eva_v, SwP.eva_c, SwP.eva_op, SwP.eva_neg, SwP.eva_ix, SwP.eva_sl, SwP.eva_rv, SwP.eva_tup, SwP.eva_lst, SwP.eva_call, SwP.eva_bi, SwP.eva_lc, SwP.eva_col, SwP.eva_ite, SwP.eva_mt, SwP.kAg, SwP.kAg2, SwP.kAgD, SwP.kAgM, SwP.agM2_mu, SwP.agV_mu, SwP.agV_im, SwP.agV_fz, SwP.sx_skip, SwP.sx_seq, SwP.kSeq_nx, SwP.kSeq_rt, SwP.kSeq_bk, SwP.kSeq_ct, SwP.kPut, SwP.kGive, SwP.sx_asgN, SwP.sx_asgT, SwP.kSix, SwP.kSix2, SwP.sixAt_t, SwP.sx_six, SwP.kSwp, SwP.kSwp2, SwP.kSwp4, SwP.kSwp5, SwP.swpAt_t, SwP.sx_swp, SwP.augP_s, SwP.kAug2_int, SwP.kAug, SwP.sx_aug, SwP.kEx, SwP.sx_ex, SwP.kRet, SwP.sx_retv, SwP.sx_ite, SwP.kIte_t, SwP.kIte_f, SwP.sx_for, SwP.sx_wh, SwP.sx_brk, SwP.sx_cont, SwP.rt_c, SwP.rt_op, SwP.rt_cmp, SwP.rt_chain, SwP.rt_neg, SwP.rt_no, SwP.rt_an, SwP.rt_oo, SwP.rt_ite, SwP.rt_tup, SwP.rt_lst, SwP.rt_ix, SwP.rt_sl, SwP.rt_rv, SwP.rt_call, SwP.rt_bi, SwP.rt_mt, SwP.rt_lc, SwP.rt_col, SwP.fr_im, SwP.fr_un, SwP.fr_mu, SwP.canSet_zero, SwP.canSet_succ, SwP.put_eq, SwP.putIf_t, SwP.putF_s, SwP.setW_zero, SwP.setW_succ, SwP.ofT_im, SwP.ofT_nu, SwP.rdV_eq, SwP.rdW_im, SwP.rdW_fz, SwP.rdW_l, SwP.rdW_s, SwP.rdW_kf, SwP.rdW_kt, SwP.isMu_eq, SwP.isMuW_l, SwP.isMuW_pop, SwP.isMuW_ix, SwP.isMuW_lix, SwP.isMuW_add, SwP.isMuW_im, SwP.isMuW_fz, SwP.storeAt_im, SwP.storeW_0, SwP.storeW_1, SwP.aug_add, SwP.aug_sub, SwP.retV_m, SwP.retV_im, SwP.retV_mt, SwP.retV_fz, SwP.agsOk_nil, SwP.agsOk_n, SwP.agsOk_s, SwP.ws_nil, SwP.ws_cons, SwP.gb_nil, SwP.gb_n, SwP.gb_s, SwP.gbW_m, SwP.gbW_fT, SwP.gbW_fF, SwP.give_n, SwP.give_t, SwP.give_l, SwP.give_p, SwP.gives_nil, SwP.gives_cons, SwP.givesK_s, SwP.wipe_nil, SwP.wipe_cons, SwP.unw_nil, SwP.unw_cons, SwP.b_add, SwP.b_sub, SwP.b_mul, SwP.mulOk_l, SwP.mulOk_r, SwP.b_fdiv, SwP.b_mod, SwP.b_pow18, SwP.c_lt, SwP.c_le, SwP.c_gt, SwP.c_ge, SwP.c_eqI, SwP.c_neI, SwP.c_isN, SwP.c_isnN, SwP.t_bl, SwP.t_int, SwP.t_tup, SwP.t_lst, SwP.t_nu, SwP.t_non, SwP.d_im, SwP.d_nu, SwP.intOf_i, SwP.seq_t, SwP.seq_l, SwP.seq_n, SwP.ix_t, SwP.ix_l, SwP.ix_n, SwP.atIx_0, SwP.atIx_1, SwP.atIx_2, SwP.atIx_m1, SwP.sl_t, SwP.sl_l, SwP.sl_n, SwP.rv_t, SwP.rv_l, SwP.rv_n, SwP.int_b, SwP.int_i, SwP.len_t, SwP.len_l, SwP.len_n, SwP.tuple_t, SwP.tuple_l, SwP.tuple_n, SwP.list_t, SwP.list_l, SwP.list_n, SwP.max_i, SwP.min_i, SwP.isi_ii, SwP.isi_ib, SwP.isi_bb, SwP.isi_tt, SwP.w_range, SwP.w_zipT, SwP.w_zipL, SwP.w_enumT, SwP.w_enumL, SwP.w_revT, List.getElem?_cons_zero, List.getElem?_cons_succ, List.contains_nil, List.contains_cons, Bool.not_true, Bool.not_false, Bool.true_and, Bool.and_true, Bool.false_or, Bool.or_false, List.getD_cons_zero, List.getD_cons_succ, Option.map_some, Int.reduceNeg, Nat.reduceLT, Nat.reduceLeDiff, Int.reduceLT, Int.reduceLE, Int.reduceEq, Int.reduceAdd, Int.reduceSub, Int.reduceMul, Nat.reduceAdd, Nat.reduceBEq, Nat.reduceEqDiff, decide_true, decide_false, SwP.mkTup_eq, SwP.mkLst_eq, SwP.b_addT, SwP.b_addNN, SwP.b_addIN, SwP.b_addNI, SwP.mt_append, SwP.mt_popAt, SwP.mt_pop, SwP.col_t, SwP.col_l, List.length_cons, List.length_nil, SwP.nums_len, SwP.prs_len, SwP.upto_len, SL, SwP.range_1, SwP.sorted_prs, SwP.sorted_prsI, SwP.lcIf_nil, SwP.lcIf_no, SwP.lcIf_cmp, SwP.lcIf_chain, SwP.lcIf_an, SwP.lcIf_oo, SwP.lcIf_call, SwP.c_neNN, SwP.c_eqNN, SwP.cut_takeI, SwP.cut_dropI, SwP.cut_m1, Int.reduceToNat, eq_self, Int.neg_neg, Int.toNat_natCast, h, wr_ok]
    exact ⟨_, rfl, rfl, _, _, rfl⟩
  · simp -implicitDefEqProofs only [SwP.bnd_ok, SwP.bnd_bad, SwP.rof_some, SwP.ev_c, SwP.ev_v, SwP.kOp2, SwP.kOp, SwP.ev_op, SwP.kCmp2, SwP.kCmp, SwP.ev_cmp, SwP.cmpR_eq, SwP.mapB, SwP.mapD, SwP.mapO, SwP.kChain, SwP.kChain2, SwP.kChain3, SwP.kChain4, SwP.ev_chain, SwP.kNeg, SwP.ev_neg, SwP.tst_eq, SwP.kTru, SwP.kNo, SwP.ev_no, SwP.kAn, SwP.kAn2, SwP.ev_an, SwP.kOo, SwP.kOo2, SwP.ev_oo, SwP.kIfE, SwP.ev_ite, SwP.ev_tup, SwP.ev_lst, SwP.kIx, SwP.kIx2, SwP.ev_ix, SwP.kSl, SwP.kSl2, SwP.kSl3, SwP.ev_sl, SwP.kRv, SwP.ev_rv, SwP.kCall_eq, SwP.dcIf_t, SwP.dcAt_eq, SwP.dcBack_eq, SwP.ev_call, SwP.kBi, SwP.ev_len, SwP.ev_tuple, SwP.ev_list, SwP.ev_sorted, SwP.ev_sum, SwP.ev_repr, SwP.ev_isinst, SwP.ev_max, SwP.ev_min, SwP.ev_set, SwP.ev_int, SwP.kMtV2, SwP.kMtV, SwP.mtAt_t, SwP.mtAt_f, SwP.kMtS_eq, SwP.ev_mt, SwP.ev_lc, SwP.ev_col, SwP.kCol, SwP.evs_nil, SwP.evs_cons, SwP.kEvs, SwP.kEvs2, SwP.evt_nil, SwP.evt_cons, SwP.kEvt, SwP.kEvt2, SwP.evo_nil, SwP.evo_c, SwP.evo_v, SwP.evo_op, SwP.evo_neg, SwP.evo_call, SwP.kBd, SwP.evi_range, SwP.evi_zip, SwP.evi_enum, SwP.evi_rev, SwP.evi_v, SwP.evi_c, SwP.evi_ix, SwP.evi_sl, SwP.evi_tup, SwP.evi_lst, SwP.evi_call, SwP.evi_op, SwP.evi_rv, SwP.evi_lc, SwP.evi_sorted, SwP.kSeqOf, SwP.kWalk, SwP.eva_nil, SwP.eva_v, SwP.eva_c, SwP.eva_op, SwP.eva_neg, SwP.eva_ix, SwP.eva_sl, SwP.eva_rv, SwP.eva_tup, SwP.eva_lst, SwP.eva_call, SwP.eva_bi, SwP.eva_lc, SwP.eva_col, SwP.eva_ite, SwP.eva_mt, SwP.kAg, SwP.kAg2, SwP.kAgD, SwP.kAgM, SwP.agM2_mu, SwP.agV_mu, SwP.agV_im, SwP.agV_fz, SwP.sx_skip, SwP.sx_seq, SwP.kSeq_nx, SwP.kSeq_rt, SwP.kSeq_bk, SwP.kSeq_ct, SwP.kPut, SwP.kGive, SwP.sx_asgN, SwP.sx_asgT, SwP.kSix, SwP.kSix2, SwP.sixAt_t, SwP.sx_six, SwP.kSwp, SwP.kSwp2, SwP.kSwp4, SwP.kSwp5, SwP.swpAt_t, SwP.sx_swp, SwP.augP_s, SwP.kAug2_int, SwP.kAug, SwP.sx_aug, SwP.kEx, SwP.sx_ex, SwP.kRet, SwP.sx_retv, SwP.sx_ite, SwP.kIte_t, SwP.kIte_f, SwP.sx_for, SwP.sx_wh, SwP.sx_brk, SwP.sx_cont, SwP.rt_c, SwP.rt_op, SwP.rt_cmp, SwP.rt_chain, SwP.rt_neg, SwP.rt_no, SwP.rt_an, SwP.rt_oo, SwP.rt_ite, SwP.rt_tup, SwP.rt_lst, SwP.rt_ix, SwP.rt_sl, SwP.rt_rv, SwP.rt_call, SwP.rt_bi, SwP.rt_mt, SwP.rt_lc, SwP.rt_col, SwP.fr_im, SwP.fr_un, SwP.fr_mu, SwP.canSet_zero, SwP.canSet_succ, SwP.put_eq, SwP.putIf_t, SwP.putF_s, SwP.setW_zero, SwP.setW_succ, SwP.ofT_im, SwP.ofT_nu, SwP.rdV_eq, SwP.rdW_im, SwP.rdW_fz, SwP.rdW_l, SwP.rdW_s, SwP.rdW_kf, SwP.rdW_kt, SwP.isMu_eq, SwP.isMuW_l, SwP.isMuW_pop, SwP.isMuW_ix, SwP.isMuW_lix, SwP.isMuW_add, SwP.isMuW_im, SwP.isMuW_fz, SwP.storeAt_im, SwP.storeW_0, SwP.storeW_1, SwP.aug_add, SwP.aug_sub, SwP.retV_m, SwP.retV_im, SwP.retV_mt, SwP.retV_fz, SwP.agsOk_nil, SwP.agsOk_n, SwP.agsOk_s, SwP.ws_nil, SwP.ws_cons, SwP.gb_nil, SwP.gb_n, SwP.gb_s, SwP.gbW_m, SwP.gbW_fT, SwP.gbW_fF, SwP.give_n, SwP.give_t, SwP.give_l, SwP.give_p, SwP.gives_nil, SwP.gives_cons, SwP.givesK_s, SwP.wipe_nil, SwP.wipe_cons, SwP.unw_nil, SwP.unw_cons, SwP.b_add, SwP.b_sub, SwP.b_mul, SwP.mulOk_l, SwP.mulOk_r, SwP.b_fdiv, SwP.b_mod, SwP.b_pow18, SwP.c_lt, SwP.c_le, SwP.c_gt, SwP.c_ge, SwP.c_eqI, SwP.c_neI, SwP.c_isN, SwP.c_isnN, SwP.t_bl, SwP.t_int, SwP.t_tup, SwP.t_lst, SwP.t_nu, SwP.t_non, SwP.d_im, SwP.d_nu, SwP.intOf_i, SwP.seq_t, SwP.seq_l, SwP.seq_n, SwP.ix_t, SwP.ix_l, SwP.ix_n, SwP.atIx_0, SwP.atIx_1, SwP.atIx_2, SwP.atIx_m1, SwP.sl_t, SwP.sl_l, SwP.sl_n, SwP.rv_t, SwP.rv_l, SwP.rv_n, SwP.int_b, SwP.int_i, SwP.len_t, SwP.len_l, SwP.len_n, SwP.tuple_t, SwP.tuple_l, SwP.tuple_n, SwP.list_t, SwP.list_l, SwP.list_n, SwP.max_i, SwP.min_i, SwP.isi_ii, SwP.isi_ib, SwP.isi_bb, SwP.isi_tt, SwP.w_range, SwP.w_zipT, SwP.w_zipL, SwP.w_enumT, SwP.w_enumL, SwP.w_revT, List.getElem?_cons_zero, List.getElem?_cons_succ, List.contains_nil, List.contains_cons, Bool.not_true, Bool.not_false, Bool.true_and, Bool.and_true, Bool.false_or, Bool.or_false, List.getD_cons_zero, List.getD_cons_succ, Option.map_some, Int.reduceNeg, Nat.reduceLT, Nat.reduceLeDiff, Int.reduceLT, Int.reduceLE, Int.reduceEq, Int.reduceAdd, Int.reduceSub, Int.reduceMul, Nat.reduceAdd, Nat.reduceBEq, Nat.reduceEqDiff, decide_true, decide_false, SwP.mkTup_eq, SwP.mkLst_eq, SwP.b_addT, SwP.b_addNN, SwP.b_addIN, SwP.b_addNI, SwP.mt_append, SwP.mt_popAt, SwP.mt_pop, SwP.col_t, SwP.col_l, List.length_cons, List.length_nil, SwP.nums_len, SwP.prs_len, SwP.upto_len, SL, SwP.range_1, SwP.sorted_prs, SwP.sorted_prsI, SwP.lcIf_nil, SwP.lcIf_no, SwP.lcIf_cmp, SwP.lcIf_chain, SwP.lcIf_an, SwP.lcIf_oo, SwP.lcIf_call, SwP.c_neNN, SwP.c_eqNN, SwP.cut_takeI, SwP.cut_dropI, SwP.cut_m1, Int.reduceToNat, eq_self, Int.neg_neg, Int.toNat_natCast, h, wr_ok]
    exact ⟨_, rfl, rfl, _, _, rfl⟩
theorem cellAt (n : Nat) (ns : List Int) (k : Nat) : Calls (callD prog (n + 1)) 2 [.im (.lst (ns.map .int)), .im (.int (k : Int))] fun t ws => ∃ c, t = .im (.int c) ∧ ws = [.im (.lst (ns.map .int)), .im (.int (k : Int))] := by
  refine calls_of (fn := f_l_cell_at) rfl rfl ?_
  show WR (sx _ f_l_cell_at.body [.im (.lst (ns.map .int)), .im (.int (k : Int))]) _
  unfold f_l_cell_at
  by_cases h : k < ns.length
  · have h1 : (k : Int) < ((ns.map D.int).length : Int) := by rw [List.length_map]; omega
    have h2 : atIx (ns.map D.int) (k : Int) = some (.int ns[k]) := by
      rw [atIx_nat (by rw [List.length_map]; exact h)]
      simp
    simp -implicitDefEqProofs only [SwP.bnd_ok, SwP.bnd_bad, SwP.rof_some, SwP.ev_c, SwP.ev_v, SwP.kOp2, SwP.kOp, SwP.ev_op, SwP.kCmp2, SwP.kCmp, SwP.ev_cmp, SwP.cmpR_eq, SwP.mapB, SwP.mapD, SwP.mapO, SwP.kChain, SwP.kChain2, SwP.kChain3, SwP.kChain4, SwP.ev_chain, SwP.kNeg, SwP.ev_neg, SwP.tst_eq, SwP.kTru, SwP.kNo, SwP.ev_no, SwP.kAn, SwP.kAn2, SwP.ev_an, SwP.kOo, SwP.kOo2, SwP.ev_oo, SwP.kIfE, SwP.ev_ite, SwP.ev_tup, SwP.ev_lst, SwP.kIx, SwP.kIx2, SwP.ev_ix, SwP.kSl, SwP.kSl2, SwP.kSl3, SwP.ev_sl, SwP.kRv, SwP.ev_rv, SwP.kCall_eq, SwP.dcIf_t, SwP.dcAt_eq, SwP.dcBack_eq, SwP.ev_call, SwP.kBi, SwP.ev_len, SwP.ev_tuple, SwP.ev_list, SwP.ev_sorted, SwP.ev_sum, SwP.ev_repr, SwP.ev_isinst, SwP.ev_max, SwP.ev_min, SwP.ev_set, SwP.ev_int, SwP.kMtV2, SwP.kMtV, SwP.mtAt_t, SwP.mtAt_f, SwP.kMtS_eq, SwP.ev_mt, SwP.ev_lc, SwP.ev_col, SwP.kCol, SwP.evs_nil, SwP.evs_cons, SwP.kEvs, SwP.kEvs2, SwP.evt_nil, SwP.evt_cons, SwP.kEvt, SwP.kEvt2, SwP.evo_nil, SwP.evo_c, SwP.evo_v, SwP.evo_op, SwP.evo_neg, SwP.evo_call, SwP.kBd, SwP.evi_range, SwP.evi_zip, SwP.evi_enum, SwP.evi_rev, SwP.evi_v, SwP.evi_c, SwP.evi_ix, SwP.evi_sl, SwP.evi_tup, SwP.evi_lst, SwP.evi_call, SwP.evi_op, SwP.evi_rv, SwP.evi_lc, SwP.evi_sorted, SwP.kSeqOf, SwP.kWalk, SwP.eva_nil, SwP.eva_v, SwP.eva_c, SwP.eva_op, SwP.eva_neg, SwP.eva_ix, SwP.eva_sl, SwP.eva_rv, SwP.eva_tup, SwP.eva_lst, SwP.eva_call, SwP.eva_bi, SwP.eva_lc, SwP.eva_col, SwP.eva_ite, SwP.eva_mt, SwP.kAg, SwP.kAg2, SwP.kAgD, SwP.kAgM, SwP.agM2_mu, SwP.agV_mu, SwP.agV_im, SwP.agV_fz, SwP.sx_skip, SwP.sx_seq, SwP.kSeq_nx, SwP.kSeq_rt, SwP.kSeq_bk, SwP.kSeq_ct, SwP.kPut, SwP.kGive, SwP.sx_asgN, SwP.sx_asgT, SwP.kSix, SwP.kSix2, SwP.sixAt_t, SwP.sx_six, SwP.kSwp, SwP.kSwp2, SwP.kSwp4, SwP.kSwp5, SwP.swpAt_t, SwP.sx_swp, SwP.augP_s, SwP.kAug2_int, SwP.kAug, SwP.sx_aug, SwP.kEx, SwP.sx_ex, SwP.kRet, SwP.sx_retv, SwP.sx_ite, SwP.kIte_t, SwP.kIte_f, SwP.sx_for, SwP.sx_wh, SwP.sx_brk, SwP.sx_cont, SwP.rt_c, SwP.rt_op, SwP.rt_cmp, SwP.rt_chain, SwP.rt_neg, SwP.rt_no, SwP.rt_an, SwP.rt_oo, SwP.rt_ite, SwP.rt_tup, SwP.rt_lst, SwP.rt_ix, SwP.rt_sl, SwP.rt_rv, SwP.rt_call, SwP.rt_bi, SwP.rt_mt, SwP.rt_lc, SwP.rt_col, SwP.fr_im, SwP.fr_un, SwP.fr_mu, SwP.canSet_zero, SwP.canSet_succ, SwP.put_eq, SwP.putIf_t, SwP.putF_s, SwP.setW_zero, SwP.setW_succ, SwP.ofT_im, SwP.ofT_nu, SwP.rdV_eq, SwP.rdW_im, SwP.rdW_fz, SwP.rdW_l, SwP.rdW_s, SwP.rdW_kf, SwP.rdW_kt, SwP.isMu_eq, SwP.isMuW_l, SwP.isMuW_pop, SwP.isMuW_ix, SwP.isMuW_lix, SwP.isMuW_add, SwP.isMuW_im, SwP.isMuW_fz, SwP.storeAt_im, SwP.storeW_0, SwP.storeW_1, SwP.aug_add, SwP.aug_sub, SwP.retV_m, SwP.retV_im, SwP.retV_mt, SwP.retV_fz, SwP.agsOk_nil, SwP.agsOk_n, SwP.agsOk_s, SwP.ws_nil, SwP.ws_cons, SwP.gb_nil, SwP.gb_n, SwP.gb_s, SwP.gbW_m, SwP.gbW_fT, SwP.gbW_fF, SwP.give_n, SwP.give_t, SwP.give_l, SwP.give_p, SwP.gives_nil, SwP.gives_cons, SwP.givesK_s, SwP.wipe_nil, SwP.wipe_cons, SwP.unw_nil, SwP.unw_cons, SwP.b_add, SwP.b_sub, SwP.b_mul, SwP.mulOk_l, SwP.mulOk_r, SwP.b_fdiv, SwP.b_mod, SwP.b_pow18, SwP.c_lt, SwP.c_le, SwP.c_gt, SwP.c_ge, SwP.c_eqI, SwP.c_neI, SwP.c_isN, SwP.c_isnN, SwP.t_bl, SwP.t_int, SwP.t_tup, SwP.t_lst, SwP.t_nu, SwP.t_non, SwP.d_im, SwP.d_nu, SwP.intOf_i, SwP.seq_t, SwP.seq_l, SwP.seq_n, SwP.ix_t, SwP.ix_l, SwP.ix_n, SwP.atIx_0, SwP.atIx_1, SwP.atIx_2, SwP.atIx_m1, SwP.sl_t, SwP.sl_l, SwP.sl_n, SwP.rv_t, SwP.rv_l, SwP.rv_n, SwP.int_b, SwP.int_i, SwP.len_t, SwP.len_l, SwP.len_n, SwP.tuple_t, SwP.tuple_l, SwP.tuple_n, SwP.list_t, SwP.list_l, SwP.list_n, SwP.max_i, SwP.min_i, SwP.isi_ii, SwP.isi_ib, SwP.isi_bb, SwP.isi_tt, SwP.w_range, SwP.w_zipT, SwP.w_zipL, SwP.w_enumT, SwP.w_enumL, SwP.w_revT, List.getElem?_cons_zero, List.getElem?_cons_succ, List.contains_nil, List.contains_cons, Bool.not_true, Bool.not_false, Bool.true_and, Bool.and_true, Bool.false_or, Bool.or_false, List.getD_cons_zero, List.getD_cons_succ, Option.map_some, Int.reduceNeg, Nat.reduceLT, Nat.reduceLeDiff, Int.reduceLT, Int.reduceLE, Int.reduceEq, Int.reduceAdd, Int.reduceSub, Int.reduceMul, Nat.reduceAdd, Nat.reduceBEq, Nat.reduceEqDiff, decide_true, decide_false, SwP.mkTup_eq, SwP.mkLst_eq, SwP.b_addT, SwP.b_addNN, SwP.b_addIN, SwP.b_addNI, SwP.mt_append, SwP.mt_popAt, SwP.mt_pop, SwP.col_t, SwP.col_l, List.length_cons, List.length_nil, SwP.nums_len, SwP.prs_len, SwP.upto_len, SL, SwP.range_1, SwP.sorted_prs, SwP.sorted_prsI, SwP.lcIf_nil, SwP.lcIf_no, SwP.lcIf_cmp, SwP.lcIf_chain, SwP.lcIf_an, SwP.lcIf_oo, SwP.lcIf_call, SwP.c_neNN, SwP.c_eqNN, SwP.cut_takeI, SwP.cut_dropI, SwP.cut_m1, Int.reduceToNat, eq_self, Int.neg_neg, Int.toNat_natCast, h1, h2, wr_ok]
    exact ⟨_, rfl, rfl⟩
  · have h1 : ¬ (k : Int) < ((ns.map D.int).length : Int) := by rw [List.length_map]; omega
    simp -implicitDefEqProofs only [SwP.bnd_ok, SwP.bnd_bad, SwP.rof_some, SwP.ev_c, SwP.ev_v, SwP.kOp2, SwP.kOp, SwP.ev_op, SwP.kCmp2, SwP.kCmp, SwP.ev_cmp, SwP.cmpR_eq, SwP.mapB, SwP.mapD, SwP.mapO, SwP.kChain, SwP.kChain2, SwP.kChain3, SwP.kChain4, SwP.ev_chain, SwP.kNeg, SwP.ev_neg, SwP.tst_eq, SwP.kTru, SwP.kNo, SwP.ev_no, SwP.kAn, SwP.kAn2, SwP.ev_an, SwP.kOo, SwP.kOo2, SwP.ev_oo, SwP.kIfE, SwP.ev_ite, SwP.ev_tup, SwP.ev_lst, SwP.kIx, SwP.kIx2, SwP.ev_ix, SwP.kSl, SwP.kSl2, SwP.kSl3, SwP.ev_sl, SwP.kRv, SwP.ev_rv, SwP.kCall_eq, SwP.dcIf_t, SwP.dcAt_eq, SwP.dcBack_eq, SwP.ev_call, SwP.kBi, SwP.ev_len, SwP.ev_tuple, SwP.ev_list, SwP.ev_sorted, SwP.ev_sum, SwP.ev_repr, SwP.ev_isinst, SwP.ev_max, SwP.ev_min, SwP.ev_set, SwP.ev_int, SwP.kMtV2, SwP.kMtV, SwP.mtAt_t, SwP.mtAt_f, SwP.kMtS_eq, SwP.ev_mt, SwP.ev_lc, SwP.ev_col, SwP.kCol, SwP.evs_nil, SwP.evs_cons, SwP.kEvs, SwP.kEvs2, SwP.evt_nil, SwP.evt_cons, SwP.kEvt, SwP.kEvt2, SwP.evo_nil, SwP.evo_c, SwP.evo_v, SwP.evo_op, SwP.evo_neg, SwP.evo_call, SwP.kBd, SwP.evi_range, SwP.evi_zip, SwP.evi_enum, SwP.evi_rev, SwP.evi_v, SwP.evi_c, SwP.evi_ix, SwP.evi_sl, SwP.evi_tup, SwP.evi_lst, SwP.evi_call, SwP.evi_op, SwP.evi_rv, SwP.evi_lc, SwP.evi_sorted, SwP.kSeqOf, SwP.kWalk, SwP.eva_nil, SwP.eva_v, SwP.eva_c, SwP.eva_op, SwP.eva_neg, SwP.eva_ix, SwP.eva_sl, SwP.eva_rv, SwP.eva_tup, SwP.eva_lst, SwP.eva_call, SwP.eva_bi, SwP.eva_lc, SwP.eva_col, SwP.eva_ite, SwP.eva_mt, SwP.kAg, SwP.kAg2, SwP.kAgD, SwP.kAgM, SwP.agM2_mu, SwP.agV_mu, SwP.agV_im, SwP.agV_fz, SwP.sx_skip, SwP.sx_seq, SwP.kSeq_nx, SwP.kSeq_rt, SwP.kSeq_bk, SwP.kSeq_ct, SwP.kPut, SwP.kGive, SwP.sx_asgN, SwP.sx_asgT, SwP.kSix, SwP.kSix2, SwP.sixAt_t, SwP.sx_six, SwP.kSwp, SwP.kSwp2, SwP.kSwp4, SwP.kSwp5, SwP.swpAt_t, SwP.sx_swp, SwP.augP_s, SwP.kAug2_int, SwP.kAug, SwP.sx_aug, SwP.kEx, SwP.sx_ex, SwP.kRet, SwP.sx_retv, SwP.sx_ite, SwP.kIte_t, SwP.kIte_f, SwP.sx_for, SwP.sx_wh, SwP.sx_brk, SwP.sx_cont, SwP.rt_c, SwP.rt_op, SwP.rt_cmp, SwP.rt_chain, SwP.rt_neg, SwP.rt_no, SwP.rt_an, SwP.rt_oo, SwP.rt_ite, SwP.rt_tup, SwP.rt_lst, SwP.rt_ix, SwP.rt_sl, SwP.rt_rv, SwP.rt_call, SwP.rt_bi, SwP.rt_mt, SwP.rt_lc, SwP.rt_col, SwP.fr_im, SwP.fr_un, SwP.fr_mu, SwP.canSet_zero, SwP.canSet_succ, SwP.put_eq, SwP.putIf_t, SwP.putF_s, SwP.setW_zero, SwP.setW_succ, SwP.ofT_im, SwP.ofT_nu, SwP.rdV_eq, SwP.rdW_im, SwP.rdW_fz, SwP.rdW_l, SwP.rdW_s, SwP.rdW_kf, SwP.rdW_kt, SwP.isMu_eq, SwP.isMuW_l, SwP.isMuW_pop, SwP.isMuW_ix, SwP.isMuW_lix, SwP.isMuW_add, SwP.isMuW_im, SwP.isMuW_fz, SwP.storeAt_im, SwP.storeW_0, SwP.storeW_1, SwP.aug_add, SwP.aug_sub, SwP.retV_m, SwP.retV_im, SwP.retV_mt, SwP.retV_fz, SwP.agsOk_nil, SwP.agsOk_n, SwP.agsOk_s, SwP.ws_nil, SwP.ws_cons, SwP.gb_nil, SwP.gb_n, SwP.gb_s, SwP.gbW_m, SwP.gbW_fT, SwP.gbW_fF, SwP.give_n, SwP.give_t, SwP.give_l, SwP.give_p, SwP.gives_nil, SwP.gives_cons, SwP.givesK_s, SwP.wipe_nil, SwP.wipe_cons, SwP.unw_nil, SwP.unw_cons, SwP.b_add, SwP.b_sub, SwP.b_mul, SwP.mulOk_l, SwP.mulOk_r, SwP.b_fdiv, SwP.b_mod, SwP.b_pow18, SwP.c_lt, SwP.c_le, SwP.c_gt, SwP.c_ge, SwP.c_eqI, SwP.c_neI, SwP.c_isN, SwP.c_isnN, SwP.t_bl, SwP.t_int, SwP.t_tup, SwP.t_lst, SwP.t_nu, SwP.t_non, SwP.d_im, SwP.d_nu, SwP.intOf_i, SwP.seq_t, SwP.seq_l, SwP.seq_n, SwP.ix_t, SwP.ix_l, SwP.ix_n, SwP.atIx_0, SwP.atIx_1, SwP.atIx_2, SwP.atIx_m1, SwP.sl_t, SwP.sl_l, SwP.sl_n, SwP.rv_t, SwP.rv_l, SwP.rv_n, SwP.int_b, SwP.int_i, SwP.len_t, SwP.len_l, SwP.len_n, SwP.tuple_t, SwP.tuple_l, SwP.tuple_n, SwP.list_t, SwP.list_l, SwP.list_n, SwP.max_i, SwP.min_i, SwP.isi_ii, SwP.isi_ib, SwP.isi_bb, SwP.isi_tt, SwP.w_range, SwP.w_zipT, SwP.w_zipL, SwP.w_enumT, SwP.w_enumL, SwP.w_revT, List.getElem?_cons_zero, List.getElem?_cons_succ, List.contains_nil, List.contains_cons, Bool.not_true, Bool.not_false, Bool.true_and, Bool.and_true, Bool.false_or, Bool.or_false, List.getD_cons_zero, List.getD_cons_succ, Option.map_some, Int.reduceNeg, Nat.reduceLT, Nat.reduceLeDiff, Int.reduceLT, Int.reduceLE, Int.reduceEq, Int.reduceAdd, Int.reduceSub, Int.reduceMul, Nat.reduceAdd, Nat.reduceBEq, Nat.reduceEqDiff, decide_true, decide_false, SwP.mkTup_eq, SwP.mkLst_eq, SwP.b_addT, SwP.b_addNN, SwP.b_addIN, SwP.b_addNI, SwP.mt_append, SwP.mt_popAt, SwP.mt_pop, SwP.col_t, SwP.col_l, List.length_cons, List.length_nil, SwP.nums_len, SwP.prs_len, SwP.upto_len, SL, SwP.range_1, SwP.sorted_prs, SwP.sorted_prsI, SwP.lcIf_nil, SwP.lcIf_no, SwP.lcIf_cmp, SwP.lcIf_chain, SwP.lcIf_an, SwP.lcIf_oo, SwP.lcIf_call, SwP.c_neNN, SwP.c_eqNN, SwP.cut_takeI, SwP.cut_dropI, SwP.cut_m1, Int.reduceToNat, eq_self, Int.neg_neg, Int.toNat_natCast, h1, wr_ok]
    exact ⟨_, rfl, rfl⟩
end SwK

set_option linter.all false
set_option maxRecDepth 100000
namespace SwK
open Sw SwP
theorem perm_erase : ∀ {l : List Nat} {r : Nat} (hr : r < l.length), (l[r] :: l.eraseIdx r).Perm l
  | a :: l, 0, _ => by simp
  | a :: l, r + 1, hr => by
    have hr' : r < l.length := by simpa using hr
    simp only [List.getElem_cons_succ, List.eraseIdx_cons_succ]
    exact (List.Perm.swap a l[r] _).trans ((perm_erase hr').cons a)
/-- drawing things out of what is left -/
theorem perm_pop {left done : List Nat} {n r : Nat} (h : (done ++ left).Perm (List.range n)) (hr : r < left.length) : ((done ++ [left[r]]) ++ left.eraseIdx r).Perm (List.range n) := by
  refine List.Perm.trans ?_ h
  rw [List.append_assoc]
  refine List.Perm.append_left done ?_
  exact perm_erase hr
end SwK

set_option linter.all false
set_option maxRecDepth 100000
namespace SwK
open Sw SwP
def flatP (s : List (Nat × Nat)) : List Nat := s.flatMap fun p => [p.1, p.2]
/-- a stage of so many wires -/
structure St (m : Nat) (s : List (Nat × Nat)) : Prop where
  lt : ∀ p ∈ s, p.1 < p.2 ∧ p.2 < m
  nodup : (flatP s).Nodup
  rise : s.Pairwise fun a b => a.1 < b.1
theorem flatP_app {a b : List (Nat × Nat)} : flatP (a ++ b) = flatP a ++ flatP b := by simp [flatP]
theorem flatP_perm {a b : List (Nat × Nat)} (h : a.Perm b) : (flatP a).Perm (flatP b) := h.flatMap_right _
theorem flatP_len {s : List (Nat × Nat)} : (flatP s).length = 2 * s.length := by
  induction s with
  | nil => rfl
  | cons p s ih =>
    have : flatP (p :: s) = p.1 :: p.2 :: flatP s := rfl
    rw [this]
    simp only [List.length_cons, ih]
    omega
theorem nodup_app {a b : List Nat} (h : (a ++ b).Nodup) : a.Nodup := (List.nodup_append.mp h).1
theorem st_sort {m : Nat} {s : List (Nat × Nat)} {left : List Nat} (h : (flatP s ++ left).Perm (List.range m)) (hl : ∀ p ∈ s, p.1 < p.2) : St m (sortP s) := by
  have hp := sortP_perm s
  have hn : (flatP (sortP s)).Nodup := (List.Perm.nodup_iff (flatP_perm hp)).mpr (nodup_app ((List.Perm.nodup_iff h).mpr List.nodup_range))
  refine ⟨fun p hps => ?_, hn, ?_⟩
  · have hps' := hp.mem_iff.mp hps
    refine ⟨hl p hps', ?_⟩
    have : p.2 ∈ flatP s ++ left := List.mem_append_left _ (List.mem_flatMap.mpr ⟨p, hps', by simp⟩)
    exact List.mem_range.mp (h.mem_iff.mp this)
  · have hs := sortP_sorted s
    clear hp
    generalize sortP s = t at hn hs
    induction t with
    | nil => exact .nil
    | cons a t ih =>
      rw [List.pairwise_cons] at hs ⊢
      have hf : flatP (a :: t) = a.1 :: a.2 :: flatP t := rfl
      rw [hf, List.nodup_cons, List.nodup_cons] at hn
      refine ⟨fun b hb => ?_, ih hn.2.2 hs.2⟩
      have h1 := pLe_iff.mp (hs.1 b hb)
      have h2 : a.1 ≠ b.1 := fun e => hn.1 (List.mem_cons_of_mem _ (List.mem_flatMap.mpr ⟨b, hb, by simp [e]⟩))
      omega
def stg (sts : List (List (Nat × Nat))) : List D := sts.map fun s => .tup (prs s)
theorem stg_len {sts : List (List (Nat × Nat))} : (stg sts).length = sts.length := by simp [stg]
theorem stg_snoc {sts : List (List (Nat × Nat))} {s : List (Nat × Nat)} : stg sts ++ [.tup (prs s)] = stg (sts ++ [s]) := by simp [stg]
theorem stg_get {sts : List (List (Nat × Nat))} {i : Nat} (h : i < (stg sts).length) : (stg sts)[i] = .tup (prs (sts[i]'(by simpa [stg] using h))) := by simp [stg]
theorem prs_snoc {l : List (Nat × Nat)} {a b : Nat} : prs l ++ [.tup [.int (min (a : Int) (b : Int)), .int (max (a : Int) (b : Int))]] = prs (l ++ [(min a b, max a b)]) := by
  simp [prs]
  omega
theorem stageB (n : Nat) {d : List D} (hd : StB d) {m : Nat} (hm : m < 1000) :
    Calls (callD prog (n + 2)) 5 [.mu true (.l d), .im (.int (m : Int))] fun t ws => ∃ (s : List (Nat × Nat)) (d' : List D), t = .im (.tup (prs s)) ∧ St m s ∧ s.length ≤ m / 2 ∧ ws = [.mu true (.l d'), .im (.int (m : Int))] ∧ StB d' := by
  refine calls_of (fn := f_l_stage) rfl rfl ?_
  show WR (sx _ f_l_stage.body [.mu true (.l d), .im (.int (m : Int)), .un, .un, .un, .un, .un, .un]) _
  have h1 : m < 1000000 := by omega
  have h1' : m ≤ 16777216 := by omega
  obtain ⟨_, _, e1, r1, d1, hr1, rfl, rfl, hd1⟩ := drawB n hd (m := 5) (by omega) (by omega)
  have hdiv : (m : Int) / 2 = ((m / 2 : Nat) : Int) := by omega
  obtain ⟨mo, hmo⟩ : ∃ mo : Nat, atIx [D.int 0, D.int 1, D.int 2, D.int ((m / 2 : Nat) : Int), D.int ((m / 2 : Nat) : Int)] (r1 : Int) = some (.int (mo : Int)) := by
    have : r1 = 0 ∨ r1 = 1 ∨ r1 = 2 ∨ r1 = 3 ∨ r1 = 4 := by omega
    rcases this with rfl | rfl | rfl | rfl | rfl
    · exact ⟨0, rfl⟩
    · exact ⟨1, rfl⟩
    · exact ⟨2, rfl⟩
    · exact ⟨m / 2, rfl⟩
    · exact ⟨m / 2, rfl⟩
  have hmin : min (mo : Int) ((m / 2 : Nat) : Int) = ((min mo (m / 2) : Nat) : Int) := by omega
  have h2 : min mo (m / 2) < 1000000 := by omega
  unfold f_l_stage
  simp -implicitDefEqProofs only [SwP.bnd_ok, SwP.bnd_bad, SwP.rof_some, SwP.ev_c, SwP.ev_v, SwP.kOp2, SwP.kOp, SwP.ev_op, SwP.kCmp2, SwP.kCmp, SwP.ev_cmp, SwP.cmpR_eq, SwP.mapB, SwP.mapD, SwP.mapO, SwP.kChain, SwP.kChain2, SwP.kChain3, SwP.kChain4, SwP.ev_chain, SwP.kNeg, SwP.ev_neg, SwP.tst_eq, SwP.kTru, SwP.kNo, SwP.ev_no, SwP.kAn, SwP.kAn2, SwP.ev_an, SwP.kOo, SwP.kOo2, SwP.ev_oo, SwP.kIfE, SwP.ev_ite, SwP.ev_tup, SwP.ev_lst, SwP.kIx, SwP.kIx2, SwP.ev_ix, SwP.kSl, SwP.kSl2, SwP.kSl3, SwP.ev_sl, SwP.kRv, SwP.ev_rv, SwP.kCall_eq, SwP.dcIf_t, SwP.dcAt_eq, SwP.dcBack_eq, SwP.ev_call, SwP.kBi, SwP.ev_len, SwP.ev_tuple, SwP.ev_list, SwP.ev_sorted, SwP.ev_sum, SwP.ev_repr, SwP.ev_isinst, SwP.ev_max, SwP.ev_min, SwP.ev_set, SwP.ev_int, SwP.kMtV2, SwP.kMtV, SwP.mtAt_t, SwP.mtAt_f, SwP.kMtS_eq, SwP.ev_mt, SwP.ev_lc, SwP.ev_col, SwP.kCol, SwP.evs_nil, SwP.evs_cons, SwP.kEvs, SwP.kEvs2, SwP.evt_nil, SwP.evt_cons, SwP.kEvt, SwP.kEvt2, SwP.evo_nil, SwP.evo_c, SwP.evo_v, SwP.evo_op, SwP.evo_neg, SwP.evo_call, SwP.kBd, SwP.evi_range, SwP.evi_zip, SwP.evi_enum, SwP.evi_rev, SwP.evi_v, SwP.evi_c, SwP.evi_ix, SwP.evi_sl, SwP.evi_tup, SwP.evi_lst, SwP.evi_call, SwP.evi_op, SwP.evi_rv, SwP.evi_lc, SwP.evi_sorted, SwP.kSeqOf, SwP.kWalk, SwP.eva_nil, SwP.eva_v, SwP.eva_c, SwP.eva_op, SwP.eva_neg, SwP.eva_ix, SwP.eva_sl, SwP.eva_rv, SwP.eva_tup, SwP.eva_lst, SwP.eva_call, SwP.eva_bi, SwP.eva_lc, SwP.eva_col, SwP.eva_ite, SwP.eva_mt, SwP.kAg, SwP.kAg2, SwP.kAgD, SwP.kAgM, SwP.agM2_mu, SwP.agV_mu, SwP.agV_im, SwP.agV_fz, SwP.sx_skip, SwP.sx_seq, SwP.kSeq_nx, SwP.kSeq_rt, SwP.kSeq_bk, SwP.kSeq_ct, SwP.kPut, SwP.kGive, SwP.sx_asgN, SwP.sx_asgT, SwP.kSix, SwP.kSix2, SwP.sixAt_t, SwP.sx_six, SwP.kSwp, SwP.kSwp2, SwP.kSwp4, SwP.kSwp5, SwP.swpAt_t, SwP.sx_swp, SwP.augP_s, SwP.kAug2_int, SwP.kAug, SwP.sx_aug, SwP.kEx, SwP.sx_ex, SwP.kRet, SwP.sx_retv, SwP.sx_ite, SwP.kIte_t, SwP.kIte_f, SwP.sx_for, SwP.sx_wh, SwP.sx_brk, SwP.sx_cont, SwP.rt_c, SwP.rt_op, SwP.rt_cmp, SwP.rt_chain, SwP.rt_neg, SwP.rt_no, SwP.rt_an, SwP.rt_oo, SwP.rt_ite, SwP.rt_tup, SwP.rt_lst, SwP.rt_ix, SwP.rt_sl, SwP.rt_rv, SwP.rt_call, SwP.rt_bi, SwP.rt_mt, SwP.rt_lc, SwP.rt_col, SwP.fr_im, SwP.fr_un, SwP.fr_mu, SwP.canSet_zero, SwP.canSet_succ, SwP.put_eq, SwP.putIf_t, SwP.putF_s, SwP.setW_zero, SwP.setW_succ, SwP.ofT_im, SwP.ofT_nu, SwP.rdV_eq, SwP.rdW_im, SwP.rdW_fz, SwP.rdW_l, SwP.rdW_s, SwP.rdW_kf, SwP.rdW_kt, SwP.isMu_eq, SwP.isMuW_l, SwP.isMuW_pop, SwP.isMuW_ix, SwP.isMuW_lix, SwP.isMuW_add, SwP.isMuW_im, SwP.isMuW_fz, SwP.storeAt_im, SwP.storeW_0, SwP.storeW_1, SwP.aug_add, SwP.aug_sub, SwP.retV_m, SwP.retV_im, SwP.retV_mt, SwP.retV_fz, SwP.agsOk_nil, SwP.agsOk_n, SwP.agsOk_s, SwP.ws_nil, SwP.ws_cons, SwP.gb_nil, SwP.gb_n, SwP.gb_s, SwP.gbW_m, SwP.gbW_fT, SwP.gbW_fF, SwP.give_n, SwP.give_t, SwP.give_l, SwP.give_p, SwP.gives_nil, SwP.gives_cons, SwP.givesK_s, SwP.wipe_nil, SwP.wipe_cons, SwP.unw_nil, SwP.unw_cons, SwP.b_add, SwP.b_sub, SwP.b_mul, SwP.mulOk_l, SwP.mulOk_r, SwP.b_fdiv, SwP.b_mod, SwP.b_pow18, SwP.c_lt, SwP.c_le, SwP.c_gt, SwP.c_ge, SwP.c_eqI, SwP.c_neI, SwP.c_isN, SwP.c_isnN, SwP.t_bl, SwP.t_int, SwP.t_tup, SwP.t_lst, SwP.t_nu, SwP.t_non, SwP.d_im, SwP.d_nu, SwP.intOf_i, SwP.seq_t, SwP.seq_l, SwP.seq_n, SwP.ix_t, SwP.ix_l, SwP.ix_n, SwP.atIx_0, SwP.atIx_1, SwP.atIx_2, SwP.atIx_m1, SwP.sl_t, SwP.sl_l, SwP.sl_n, SwP.rv_t, SwP.rv_l, SwP.rv_n, SwP.int_b, SwP.int_i, SwP.len_t, SwP.len_l, SwP.len_n, SwP.tuple_t, SwP.tuple_l, SwP.tuple_n, SwP.list_t, SwP.list_l, SwP.list_n, SwP.max_i, SwP.min_i, SwP.isi_ii, SwP.isi_ib, SwP.isi_bb, SwP.isi_tt, SwP.w_range, SwP.w_zipT, SwP.w_zipL, SwP.w_enumT, SwP.w_enumL, SwP.w_revT, List.getElem?_cons_zero, List.getElem?_cons_succ, List.contains_nil, List.contains_cons, Bool.not_true, Bool.not_false, Bool.true_and, Bool.and_true, Bool.false_or, Bool.or_false, List.getD_cons_zero, List.getD_cons_succ, Option.map_some, Int.reduceNeg, Nat.reduceLT, Nat.reduceLeDiff, Int.reduceLT, Int.reduceLE, Int.reduceEq, Int.reduceAdd, Int.reduceSub, Int.reduceMul, Nat.reduceAdd, Nat.reduceBEq, Nat.reduceEqDiff, decide_true, decide_false, SwP.mkTup_eq, SwP.mkLst_eq, SwP.b_addT, SwP.b_addNN, SwP.b_addIN, SwP.b_addNI, SwP.mt_append, SwP.mt_popAt, SwP.mt_pop, SwP.col_t, SwP.col_l, List.length_cons, List.length_nil, SwP.nums_len, SwP.prs_len, SwP.upto_len, SL, SwP.range_1, SwP.sorted_prs, SwP.sorted_prsI, SwP.lcIf_nil, SwP.lcIf_no, SwP.lcIf_cmp, SwP.lcIf_chain, SwP.lcIf_an, SwP.lcIf_oo, SwP.lcIf_call, SwP.c_neNN, SwP.c_eqNN, SwP.cut_takeI, SwP.cut_dropI, SwP.cut_m1, Int.reduceToNat, eq_self, Int.neg_neg, Int.toNat_natCast, e1, hdiv, hmo, hmin, h1, h1', h2]
  simp only [wr_bnd]
  refine wr_for (I := fun j env => ∃ dj left ps w5 w6 w7, env = [.mu true (.l dj), .im (.int (m : Int)), .mu false (.l (nums left)), .mu false (.l (prs ps)), .im (.int (mo : Int)), w5, w6, w7] ∧ fr w5 = true ∧ fr w6 = true ∧ fr w7 = true ∧ left.length = m - 2 * j ∧ ps.length = j ∧ (flatP ps ++ left).Perm (List.range m) ∧ (∀ p ∈ ps, p.1 < p.2) ∧ StB dj) ⟨d1, List.range m, [], _, _, _, rfl, rfl, rfl, rfl, by simp, rfl, by simp [flatP], by simp, hd1⟩ ?_ ?_
  · rintro j hj env ⟨dj, left, ps, w5, w6, w7, rfl, f5, f6, f7, hl, hp, hperm, hlt, hdj⟩
    rw [upto_len] at hj
    refine ⟨_, by simp -implicitDefEqProofs only [SwP.bnd_ok, SwP.bnd_bad, SwP.rof_some, SwP.ev_c, SwP.ev_v, SwP.kOp2, SwP.kOp, SwP.ev_op, SwP.kCmp2, SwP.kCmp, SwP.ev_cmp, SwP.cmpR_eq, SwP.mapB, SwP.mapD, SwP.mapO, SwP.kChain, SwP.kChain2, SwP.kChain3, SwP.kChain4, SwP.ev_chain, SwP.kNeg, SwP.ev_neg, SwP.tst_eq, SwP.kTru, SwP.kNo, SwP.ev_no, SwP.kAn, SwP.kAn2, SwP.ev_an, SwP.kOo, SwP.kOo2, SwP.ev_oo, SwP.kIfE, SwP.ev_ite, SwP.ev_tup, SwP.ev_lst, SwP.kIx, SwP.kIx2, SwP.ev_ix, SwP.kSl, SwP.kSl2, SwP.kSl3, SwP.ev_sl, SwP.kRv, SwP.ev_rv, SwP.kCall_eq, SwP.dcIf_t, SwP.dcAt_eq, SwP.dcBack_eq, SwP.ev_call, SwP.kBi, SwP.ev_len, SwP.ev_tuple, SwP.ev_list, SwP.ev_sorted, SwP.ev_sum, SwP.ev_repr, SwP.ev_isinst, SwP.ev_max, SwP.ev_min, SwP.ev_set, SwP.ev_int, SwP.kMtV2, SwP.kMtV, SwP.mtAt_t, SwP.mtAt_f, SwP.kMtS_eq, SwP.ev_mt, SwP.ev_lc, SwP.ev_col, SwP.kCol, SwP.evs_nil, SwP.evs_cons, SwP.kEvs, SwP.kEvs2, SwP.evt_nil, SwP.evt_cons, SwP.kEvt, SwP.kEvt2, SwP.evo_nil, SwP.evo_c, SwP.evo_v, SwP.evo_op, SwP.evo_neg, SwP.evo_call, SwP.kBd, SwP.evi_range, SwP.evi_zip, SwP.evi_enum, SwP.evi_rev, SwP.evi_v, SwP.evi_c, SwP.evi_ix, SwP.evi_sl, SwP.evi_tup, SwP.evi_lst, SwP.evi_call, SwP.evi_op, SwP.evi_rv, SwP.evi_lc, SwP.evi_sorted, SwP.kSeqOf, SwP.kWalk, SwP.eva_nil, SwP.eva_v, SwP.eva_c, SwP.eva_op, SwP.eva_neg, SwP.eva_ix, SwP.eva_sl, SwP.eva_rv, SwP.eva_tup, SwP.eva_lst, SwP.eva_call, SwP.eva_bi, SwP.eva_lc, SwP.eva_col, SwP.eva_ite, SwP.eva_mt, SwP.kAg, SwP.kAg2, SwP.kAgD, SwP.kAgM, SwP.agM2_mu, SwP.agV_mu, SwP.agV_im, SwP.agV_fz, SwP.sx_skip, SwP.sx_seq, SwP.kSeq_nx, SwP.kSeq_rt, SwP.kSeq_bk, SwP.kSeq_ct, SwP.kPut, SwP.kGive, SwP.sx_asgN, SwP.sx_asgT, SwP.kSix, SwP.kSix2, SwP.sixAt_t, SwP.sx_six, SwP.kSwp, SwP.kSwp2, SwP.kSwp4, SwP.kSwp5, SwP.swpAt_t, SwP.sx_swp, SwP.augP_s, SwP.kAug2_int, SwP.kAug, SwP.sx_aug, SwP.kEx, SwP.sx_ex, SwP.kRet, SwP.sx_retv, SwP.sx_ite, SwP.kIte_t, SwP.kIte_f, SwP.sx_for, SwP.sx_wh, SwP.sx_brk, SwP.sx_cont, SwP.rt_c, SwP.rt_op, SwP.rt_cmp, SwP.rt_chain, SwP.rt_neg, SwP.rt_no, SwP.rt_an, SwP.rt_oo, SwP.rt_ite, SwP.rt_tup, SwP.rt_lst, SwP.rt_ix, SwP.rt_sl, SwP.rt_rv, SwP.rt_call, SwP.rt_bi, SwP.rt_mt, SwP.rt_lc, SwP.rt_col, SwP.fr_im, SwP.fr_un, SwP.fr_mu, SwP.canSet_zero, SwP.canSet_succ, SwP.put_eq, SwP.putIf_t, SwP.putF_s, SwP.setW_zero, SwP.setW_succ, SwP.ofT_im, SwP.ofT_nu, SwP.rdV_eq, SwP.rdW_im, SwP.rdW_fz, SwP.rdW_l, SwP.rdW_s, SwP.rdW_kf, SwP.rdW_kt, SwP.isMu_eq, SwP.isMuW_l, SwP.isMuW_pop, SwP.isMuW_ix, SwP.isMuW_lix, SwP.isMuW_add, SwP.isMuW_im, SwP.isMuW_fz, SwP.storeAt_im, SwP.storeW_0, SwP.storeW_1, SwP.aug_add, SwP.aug_sub, SwP.retV_m, SwP.retV_im, SwP.retV_mt, SwP.retV_fz, SwP.agsOk_nil, SwP.agsOk_n, SwP.agsOk_s, SwP.ws_nil, SwP.ws_cons, SwP.gb_nil, SwP.gb_n, SwP.gb_s, SwP.gbW_m, SwP.gbW_fT, SwP.gbW_fF, SwP.give_n, SwP.give_t, SwP.give_l, SwP.give_p, SwP.gives_nil, SwP.gives_cons, SwP.givesK_s, SwP.wipe_nil, SwP.wipe_cons, SwP.unw_nil, SwP.unw_cons, SwP.b_add, SwP.b_sub, SwP.b_mul, SwP.mulOk_l, SwP.mulOk_r, SwP.b_fdiv, SwP.b_mod, SwP.b_pow18, SwP.c_lt, SwP.c_le, SwP.c_gt, SwP.c_ge, SwP.c_eqI, SwP.c_neI, SwP.c_isN, SwP.c_isnN, SwP.t_bl, SwP.t_int, SwP.t_tup, SwP.t_lst, SwP.t_nu, SwP.t_non, SwP.d_im, SwP.d_nu, SwP.intOf_i, SwP.seq_t, SwP.seq_l, SwP.seq_n, SwP.ix_t, SwP.ix_l, SwP.ix_n, SwP.atIx_0, SwP.atIx_1, SwP.atIx_2, SwP.atIx_m1, SwP.sl_t, SwP.sl_l, SwP.sl_n, SwP.rv_t, SwP.rv_l, SwP.rv_n, SwP.int_b, SwP.int_i, SwP.len_t, SwP.len_l, SwP.len_n, SwP.tuple_t, SwP.tuple_l, SwP.tuple_n, SwP.list_t, SwP.list_l, SwP.list_n, SwP.max_i, SwP.min_i, SwP.isi_ii, SwP.isi_ib, SwP.isi_bb, SwP.isi_tt, SwP.w_range, SwP.w_zipT, SwP.w_zipL, SwP.w_enumT, SwP.w_enumL, SwP.w_revT, List.getElem?_cons_zero, List.getElem?_cons_succ, List.contains_nil, List.contains_cons, Bool.not_true, Bool.not_false, Bool.true_and, Bool.and_true, Bool.false_or, Bool.or_false, List.getD_cons_zero, List.getD_cons_succ, Option.map_some, Int.reduceNeg, Nat.reduceLT, Nat.reduceLeDiff, Int.reduceLT, Int.reduceLE, Int.reduceEq, Int.reduceAdd, Int.reduceSub, Int.reduceMul, Nat.reduceAdd, Nat.reduceBEq, Nat.reduceEqDiff, decide_true, decide_false, SwP.mkTup_eq, SwP.mkLst_eq, SwP.b_addT, SwP.b_addNN, SwP.b_addIN, SwP.b_addNI, SwP.mt_append, SwP.mt_popAt, SwP.mt_pop, SwP.col_t, SwP.col_l, List.length_cons, List.length_nil, SwP.nums_len, SwP.prs_len, SwP.upto_len, SL, SwP.range_1, SwP.sorted_prs, SwP.sorted_prsI, SwP.lcIf_nil, SwP.lcIf_no, SwP.lcIf_cmp, SwP.lcIf_chain, SwP.lcIf_an, SwP.lcIf_oo, SwP.lcIf_call, SwP.c_neNN, SwP.c_eqNN, SwP.cut_takeI, SwP.cut_dropI, SwP.cut_m1, Int.reduceToNat, eq_self, Int.neg_neg, Int.toNat_natCast, f5, upto_get]; rfl, ?_⟩
    obtain ⟨_, _, e4, r4, d4, hr4, rfl, rfl, hd4⟩ := drawB n hdj (m := ((left.length : Nat) : Int)) (by omega) (by omega)
    have h4 : r4 < left.length := by omega
    have hl4 : (left.eraseIdx r4).length = left.length - 1 := by rw [List.length_eraseIdx, if_pos h4]
    obtain ⟨_, _, e5, r5, d5, hr5, rfl, rfl, hd5⟩ := drawB n hd4 (m := ((left.eraseIdx r4).length : Int)) (by omega) (by omega)
    have h5 : r5 < (left.eraseIdx r4).length := by omega
    have b4 : left.length ≤ 16777216 := by omega
    have b5 : (left.eraseIdx r4).length ≤ 16777216 := by omega
    have b6 : ps.length < 16777216 := by omega
    simp -implicitDefEqProofs only [SwP.bnd_ok, SwP.bnd_bad, SwP.rof_some, SwP.ev_c, SwP.ev_v, SwP.kOp2, SwP.kOp, SwP.ev_op, SwP.kCmp2, SwP.kCmp, SwP.ev_cmp, SwP.cmpR_eq, SwP.mapB, SwP.mapD, SwP.mapO, SwP.kChain, SwP.kChain2, SwP.kChain3, SwP.kChain4, SwP.ev_chain, SwP.kNeg, SwP.ev_neg, SwP.tst_eq, SwP.kTru, SwP.kNo, SwP.ev_no, SwP.kAn, SwP.kAn2, SwP.ev_an, SwP.kOo, SwP.kOo2, SwP.ev_oo, SwP.kIfE, SwP.ev_ite, SwP.ev_tup, SwP.ev_lst, SwP.kIx, SwP.kIx2, SwP.ev_ix, SwP.kSl, SwP.kSl2, SwP.kSl3, SwP.ev_sl, SwP.kRv, SwP.ev_rv, SwP.kCall_eq, SwP.dcIf_t, SwP.dcAt_eq, SwP.dcBack_eq, SwP.ev_call, SwP.kBi, SwP.ev_len, SwP.ev_tuple, SwP.ev_list, SwP.ev_sorted, SwP.ev_sum, SwP.ev_repr, SwP.ev_isinst, SwP.ev_max, SwP.ev_min, SwP.ev_set, SwP.ev_int, SwP.kMtV2, SwP.kMtV, SwP.mtAt_t, SwP.mtAt_f, SwP.kMtS_eq, SwP.ev_mt, SwP.ev_lc, SwP.ev_col, SwP.kCol, SwP.evs_nil, SwP.evs_cons, SwP.kEvs, SwP.kEvs2, SwP.evt_nil, SwP.evt_cons, SwP.kEvt, SwP.kEvt2, SwP.evo_nil, SwP.evo_c, SwP.evo_v, SwP.evo_op, SwP.evo_neg, SwP.evo_call, SwP.kBd, SwP.evi_range, SwP.evi_zip, SwP.evi_enum, SwP.evi_rev, SwP.evi_v, SwP.evi_c, SwP.evi_ix, SwP.evi_sl, SwP.evi_tup, SwP.evi_lst, SwP.evi_call, SwP.evi_op, SwP.evi_rv, SwP.evi_lc, SwP.evi_sorted, SwP.kSeqOf, SwP.kWalk, SwP.eva_nil, SwP.eva_v, SwP.eva_c, SwP.eva_op, SwP.eva_neg, SwP.eva_ix, SwP.eva_sl, SwP.eva_rv, SwP.eva_tup, SwP.eva_lst, SwP.eva_call, SwP.eva_bi, SwP.eva_lc, SwP.eva_col, SwP.eva_ite, SwP.eva_mt, SwP.kAg, SwP.kAg2, SwP.kAgD, SwP.kAgM, SwP.agM2_mu, SwP.agV_mu, SwP.agV_im, SwP.agV_fz, SwP.sx_skip, SwP.sx_seq, SwP.kSeq_nx, SwP.kSeq_rt, SwP.kSeq_bk, SwP.kSeq_ct, SwP.kPut, SwP.kGive, SwP.sx_asgN, SwP.sx_asgT, SwP.kSix, SwP.kSix2, SwP.sixAt_t, SwP.sx_six, SwP.kSwp, SwP.kSwp2, SwP.kSwp4, SwP.kSwp5, SwP.swpAt_t, SwP.sx_swp, SwP.augP_s, SwP.kAug2_int, SwP.kAug, SwP.sx_aug, SwP.kEx, SwP.sx_ex, SwP.kRet, SwP.sx_retv, SwP.sx_ite, SwP.kIte_t, SwP.kIte_f, SwP.sx_for, SwP.sx_wh, SwP.sx_brk, SwP.sx_cont, SwP.rt_c, SwP.rt_op, SwP.rt_cmp, SwP.rt_chain, SwP.rt_neg, SwP.rt_no, SwP.rt_an, SwP.rt_oo, SwP.rt_ite, SwP.rt_tup, SwP.rt_lst, SwP.rt_ix, SwP.rt_sl, SwP.rt_rv, SwP.rt_call, SwP.rt_bi, SwP.rt_mt, SwP.rt_lc, SwP.rt_col, SwP.fr_im, SwP.fr_un, SwP.fr_mu, SwP.canSet_zero, SwP.canSet_succ, SwP.put_eq, SwP.putIf_t, SwP.putF_s, SwP.setW_zero, SwP.setW_succ, SwP.ofT_im, SwP.ofT_nu, SwP.rdV_eq, SwP.rdW_im, SwP.rdW_fz, SwP.rdW_l, SwP.rdW_s, SwP.rdW_kf, SwP.rdW_kt, SwP.isMu_eq, SwP.isMuW_l, SwP.isMuW_pop, SwP.isMuW_ix, SwP.isMuW_lix, SwP.isMuW_add, SwP.isMuW_im, SwP.isMuW_fz, SwP.storeAt_im, SwP.storeW_0, SwP.storeW_1, SwP.aug_add, SwP.aug_sub, SwP.retV_m, SwP.retV_im, SwP.retV_mt, SwP.retV_fz, SwP.agsOk_nil, SwP.agsOk_n, SwP.agsOk_s, SwP.ws_nil, SwP.ws_cons, SwP.gb_nil, SwP.gb_n, SwP.gb_s, SwP.gbW_m, SwP.gbW_fT, SwP.gbW_fF, SwP.give_n, SwP.give_t, SwP.give_l, SwP.give_p, SwP.gives_nil, SwP.gives_cons, SwP.givesK_s, SwP.wipe_nil, SwP.wipe_cons, SwP.unw_nil, SwP.unw_cons, SwP.b_add, SwP.b_sub, SwP.b_mul, SwP.mulOk_l, SwP.mulOk_r, SwP.b_fdiv, SwP.b_mod, SwP.b_pow18, SwP.c_lt, SwP.c_le, SwP.c_gt, SwP.c_ge, SwP.c_eqI, SwP.c_neI, SwP.c_isN, SwP.c_isnN, SwP.t_bl, SwP.t_int, SwP.t_tup, SwP.t_lst, SwP.t_nu, SwP.t_non, SwP.d_im, SwP.d_nu, SwP.intOf_i, SwP.seq_t, SwP.seq_l, SwP.seq_n, SwP.ix_t, SwP.ix_l, SwP.ix_n, SwP.atIx_0, SwP.atIx_1, SwP.atIx_2, SwP.atIx_m1, SwP.sl_t, SwP.sl_l, SwP.sl_n, SwP.rv_t, SwP.rv_l, SwP.rv_n, SwP.int_b, SwP.int_i, SwP.len_t, SwP.len_l, SwP.len_n, SwP.tuple_t, SwP.tuple_l, SwP.tuple_n, SwP.list_t, SwP.list_l, SwP.list_n, SwP.max_i, SwP.min_i, SwP.isi_ii, SwP.isi_ib, SwP.isi_bb, SwP.isi_tt, SwP.w_range, SwP.w_zipT, SwP.w_zipL, SwP.w_enumT, SwP.w_enumL, SwP.w_revT, List.getElem?_cons_zero, List.getElem?_cons_succ, List.contains_nil, List.contains_cons, Bool.not_true, Bool.not_false, Bool.true_and, Bool.and_true, Bool.false_or, Bool.or_false, List.getD_cons_zero, List.getD_cons_succ, Option.map_some, Int.reduceNeg, Nat.reduceLT, Nat.reduceLeDiff, Int.reduceLT, Int.reduceLE, Int.reduceEq, Int.reduceAdd, Int.reduceSub, Int.reduceMul, Nat.reduceAdd, Nat.reduceBEq, Nat.reduceEqDiff, decide_true, decide_false, SwP.mkTup_eq, SwP.mkLst_eq, SwP.b_addT, SwP.b_addNN, SwP.b_addIN, SwP.b_addNI, SwP.mt_append, SwP.mt_popAt, SwP.mt_pop, SwP.col_t, SwP.col_l, List.length_cons, List.length_nil, SwP.nums_len, SwP.prs_len, SwP.upto_len, SL, SwP.range_1, SwP.sorted_prs, SwP.sorted_prsI, SwP.lcIf_nil, SwP.lcIf_no, SwP.lcIf_cmp, SwP.lcIf_chain, SwP.lcIf_an, SwP.lcIf_oo, SwP.lcIf_call, SwP.c_neNN, SwP.c_eqNN, SwP.cut_takeI, SwP.cut_dropI, SwP.cut_m1, Int.reduceToNat, eq_self, Int.neg_neg, Int.toNat_natCast, e4, e5, f6, f7, h4, h5, b4, b5, b6, nums_erase, nums_get, wr_ok, prs_snoc]
    have hperm2 := perm_pop (perm_pop hperm h4) h5
    have hnd : (flatP ps ++ [left[r4]] ++ [(left.eraseIdx r4)[r5]]).Nodup := nodup_app ((List.Perm.nodup_iff hperm2).mpr List.nodup_range)
    have hne : left[r4] ≠ (left.eraseIdx r4)[r5] := fun e => by
      rw [List.append_assoc] at hnd
      have := (List.nodup_append.mp hnd).2.1
      rw [e] at this
      simp at this
    refine ⟨d5, (left.eraseIdx r4).eraseIdx r5, ps ++ [(min left[r4] (left.eraseIdx r4)[r5], max left[r4] (left.eraseIdx r4)[r5])], _, _, _, rfl, rfl, rfl, rfl, by rw [List.length_eraseIdx, if_pos h5]; omega, by simp [hp], ?_, fun p hpm => ?_, hd5⟩
    · refine List.Perm.trans ?_ hperm2
      rw [flatP_app]
      refine List.Perm.append_right _ ?_
      rw [List.append_assoc]
      refine List.Perm.append_left _ ?_
      show [min left[r4] (left.eraseIdx r4)[r5], max left[r4] (left.eraseIdx r4)[r5]].Perm [left[r4], (left.eraseIdx r4)[r5]]
      rcases Nat.le_total left[r4] (left.eraseIdx r4)[r5] with h | h
      · rw [Nat.min_eq_left h, Nat.max_eq_right h]
      · rw [Nat.min_eq_right h, Nat.max_eq_left h]
        exact .swap _ _ _
    · rcases List.mem_append.mp hpm with h | h
      · exact hlt p h
      · simp only [List.mem_singleton] at h
        subst h
        show min left[r4] (left.eraseIdx r4)[r5] < max left[r4] (left.eraseIdx r4)[r5]
        omega
  · rintro env ⟨dj, left, ps, w5, w6, w7, rfl, f5, f6, f7, hl, hp, hperm, hlt, hdj⟩
    rw [upto_len] at hp
    simp -implicitDefEqProofs only [SwP.bnd_ok, SwP.bnd_bad, SwP.rof_some, SwP.ev_c, SwP.ev_v, SwP.kOp2, SwP.kOp, SwP.ev_op, SwP.kCmp2, SwP.kCmp, SwP.ev_cmp, SwP.cmpR_eq, SwP.mapB, SwP.mapD, SwP.mapO, SwP.kChain, SwP.kChain2, SwP.kChain3, SwP.kChain4, SwP.ev_chain, SwP.kNeg, SwP.ev_neg, SwP.tst_eq, SwP.kTru, SwP.kNo, SwP.ev_no, SwP.kAn, SwP.kAn2, SwP.ev_an, SwP.kOo, SwP.kOo2, SwP.ev_oo, SwP.kIfE, SwP.ev_ite, SwP.ev_tup, SwP.ev_lst, SwP.kIx, SwP.kIx2, SwP.ev_ix, SwP.kSl, SwP.kSl2, SwP.kSl3, SwP.ev_sl, SwP.kRv, SwP.ev_rv, SwP.kCall_eq, SwP.dcIf_t, SwP.dcAt_eq, SwP.dcBack_eq, SwP.ev_call, SwP.kBi, SwP.ev_len, SwP.ev_tuple, SwP.ev_list, SwP.ev_sorted, SwP.ev_sum, SwP.ev_repr, SwP.ev_isinst, SwP.ev_max, SwP.ev_min, SwP.ev_set, SwP.ev_int, SwP.kMtV2, SwP.kMtV, SwP.mtAt_t, SwP.mtAt_f, SwP.kMtS_eq, SwP.ev_mt, SwP.ev_lc, SwP.ev_col, SwP.kCol, SwP.evs_nil, SwP.evs_cons, SwP.kEvs, SwP.kEvs2, SwP.evt_nil, SwP.evt_cons, SwP.kEvt, SwP.kEvt2, SwP.evo_nil, SwP.evo_c, SwP.evo_v, SwP.evo_op, SwP.evo_neg, SwP.evo_call, SwP.kBd, SwP.evi_range, SwP.evi_zip, SwP.evi_enum, SwP.evi_rev, SwP.evi_v, SwP.evi_c, SwP.evi_ix, SwP.evi_sl, SwP.evi_tup, SwP.evi_lst, SwP.evi_call, SwP.evi_op, SwP.evi_rv, SwP.evi_lc, SwP.evi_sorted, SwP.kSeqOf, SwP.kWalk, SwP.eva_nil, SwP.eva_v, SwP.eva_c, SwP.eva_op, SwP.eva_neg, SwP.eva_ix, SwP.eva_sl, SwP.eva_rv, SwP.eva_tup, SwP.eva_lst, SwP.eva_call, SwP.eva_bi, SwP.eva_lc, SwP.eva_col, SwP.eva_ite, SwP.eva_mt, SwP.kAg, SwP.kAg2, SwP.kAgD, SwP.kAgM, SwP.agM2_mu, SwP.agV_mu, SwP.agV_im, SwP.agV_fz, SwP.sx_skip, SwP.sx_seq, SwP.kSeq_nx, SwP.kSeq_rt, SwP.kSeq_bk, SwP.kSeq_ct, SwP.kPut, SwP.kGive, SwP.sx_asgN, SwP.sx_asgT, SwP.kSix, SwP.kSix2, SwP.sixAt_t, SwP.sx_six, SwP.kSwp, SwP.kSwp2, SwP.kSwp4, SwP.kSwp5, SwP.swpAt_t, SwP.sx_swp, SwP.augP_s, SwP.kAug2_int, SwP.kAug, SwP.sx_aug, SwP.kEx, SwP.sx_ex, SwP.kRet, SwP.sx_retv, SwP.sx_ite, SwP.kIte_t, SwP.kIte_f, SwP.sx_for, SwP.sx_wh, SwP.sx_brk, SwP.sx_cont, SwP.rt_c, SwP.rt_op, SwP.rt_cmp, SwP.rt_chain, SwP.rt_neg, SwP.rt_no, SwP.rt_an, SwP.rt_oo, SwP.rt_ite, SwP.rt_tup, SwP.rt_lst, SwP.rt_ix, SwP.rt_sl, SwP.rt_rv, SwP.rt_call, SwP.rt_bi, SwP.rt_mt, SwP.rt_lc, SwP.rt_col, SwP.fr_im, SwP.fr_un, SwP.fr_mu, SwP.canSet_zero, SwP.canSet_succ, SwP.put_eq, SwP.putIf_t, SwP.putF_s, SwP.setW_zero, SwP.setW_succ, SwP.ofT_im, SwP.ofT_nu, SwP.rdV_eq, SwP.rdW_im, SwP.rdW_fz, SwP.rdW_l, SwP.rdW_s, SwP.rdW_kf, SwP.rdW_kt, SwP.isMu_eq, SwP.isMuW_l, SwP.isMuW_pop, SwP.isMuW_ix, SwP.isMuW_lix, SwP.isMuW_add, SwP.isMuW_im, SwP.isMuW_fz, SwP.storeAt_im, SwP.storeW_0, SwP.storeW_1, SwP.aug_add, SwP.aug_sub, SwP.retV_m, SwP.retV_im, SwP.retV_mt, SwP.retV_fz, SwP.agsOk_nil, SwP.agsOk_n, SwP.agsOk_s, SwP.ws_nil, SwP.ws_cons, SwP.gb_nil, SwP.gb_n, SwP.gb_s, SwP.gbW_m, SwP.gbW_fT, SwP.gbW_fF, SwP.give_n, SwP.give_t, SwP.give_l, SwP.give_p, SwP.gives_nil, SwP.gives_cons, SwP.givesK_s, SwP.wipe_nil, SwP.wipe_cons, SwP.unw_nil, SwP.unw_cons, SwP.b_add, SwP.b_sub, SwP.b_mul, SwP.mulOk_l, SwP.mulOk_r, SwP.b_fdiv, SwP.b_mod, SwP.b_pow18, SwP.c_lt, SwP.c_le, SwP.c_gt, SwP.c_ge, SwP.c_eqI, SwP.c_neI, SwP.c_isN, SwP.c_isnN, SwP.t_bl, SwP.t_int, SwP.t_tup, SwP.t_lst, SwP.t_nu, SwP.t_non, SwP.d_im, SwP.d_nu, SwP.intOf_i, SwP.seq_t, SwP.seq_l, SwP.seq_n, SwP.ix_t, SwP.ix_l, SwP.ix_n, SwP.atIx_0, SwP.atIx_1, SwP.atIx_2, SwP.atIx_m1, SwP.sl_t, SwP.sl_l, SwP.sl_n, SwP.rv_t, SwP.rv_l, SwP.rv_n, SwP.int_b, SwP.int_i, SwP.len_t, SwP.len_l, SwP.len_n, SwP.tuple_t, SwP.tuple_l, SwP.tuple_n, SwP.list_t, SwP.list_l, SwP.list_n, SwP.max_i, SwP.min_i, SwP.isi_ii, SwP.isi_ib, SwP.isi_bb, SwP.isi_tt, SwP.w_range, SwP.w_zipT, SwP.w_zipL, SwP.w_enumT, SwP.w_enumL, SwP.w_revT, List.getElem?_cons_zero, List.getElem?_cons_succ, List.contains_nil, List.contains_cons, Bool.not_true, Bool.not_false, Bool.true_and, Bool.and_true, Bool.false_or, Bool.or_false, List.getD_cons_zero, List.getD_cons_succ, Option.map_some, Int.reduceNeg, Nat.reduceLT, Nat.reduceLeDiff, Int.reduceLT, Int.reduceLE, Int.reduceEq, Int.reduceAdd, Int.reduceSub, Int.reduceMul, Nat.reduceAdd, Nat.reduceBEq, Nat.reduceEqDiff, decide_true, decide_false, SwP.mkTup_eq, SwP.mkLst_eq, SwP.b_addT, SwP.b_addNN, SwP.b_addIN, SwP.b_addNI, SwP.mt_append, SwP.mt_popAt, SwP.mt_pop, SwP.col_t, SwP.col_l, List.length_cons, List.length_nil, SwP.nums_len, SwP.prs_len, SwP.upto_len, SL, SwP.range_1, SwP.sorted_prs, SwP.sorted_prsI, SwP.lcIf_nil, SwP.lcIf_no, SwP.lcIf_cmp, SwP.lcIf_chain, SwP.lcIf_an, SwP.lcIf_oo, SwP.lcIf_call, SwP.c_neNN, SwP.c_eqNN, SwP.cut_takeI, SwP.cut_dropI, SwP.cut_m1, Int.reduceToNat, eq_self, Int.neg_neg, Int.toNat_natCast, wr_ok]
    exact ⟨sortP ps, dj, rfl, st_sort hperm hlt, by rw [(sortP_perm ps).length_eq]; omega, rfl, hdj⟩
end SwK

set_option linter.all false
set_option maxRecDepth 100000
namespace SwK
open Sw SwP
theorem netB (n : Nat) {d : List D} (hd : StB d) {great long : Nat} (hg : great ≤ 32) (hg0 : 0 < great) (hlo : long ≤ 20) :
    Calls (callD prog (n + 3)) 6 [.mu true (.l d), .im (.int (great : Int)), .im (.int (long : Int))] fun t ws => ∃ (m : Nat) (sts : List (List (Nat × Nat))) (d' : List D), t = .im (.tup [.int (m : Int), .tup (stg sts)]) ∧ 0 < m ∧ m ≤ 32 ∧ sts.length ≤ 20 ∧ (∀ s ∈ sts, St m s ∧ s.length ≤ m / 2) ∧ ws = [.mu true (.l d'), .im (.int (great : Int)), .im (.int (long : Int))] ∧ StB d' := by
  refine calls_of (fn := f_l_net) rfl rfl ?_
  show WR (sx _ f_l_net.body [.mu true (.l d), .im (.int (great : Int)), .im (.int (long : Int)), .un, .un, .un]) _
  obtain ⟨_, _, e1, r1, d1, hr1, rfl, rfl, hd1⟩ := drawB (n + 1) hd (m := 6) (by omega) (by omega)
  obtain ⟨_, _, e2, r2, d2, hr2, rfl, rfl, hd2⟩ := drawB (n + 1) hd1 (m := 6) (by omega) (by omega)
  obtain ⟨_, _, e3, r3, d3, hr3, rfl, rfl, hd3⟩ := drawB (n + 1) hd2 (m := 8) (by omega) (by omega)
  obtain ⟨_, _, e4, r4, d4, hr4, rfl, rfl, hd4⟩ := drawB (n + 1) hd3 (m := 8) (by omega) (by omega)
  obtain ⟨m0, hm0, hm1, hat⟩ : ∃ m0 : Nat, 0 < m0 ∧ m0 ≤ 8 ∧ atIx [D.int 2, D.int 3, D.int 4, D.int 5, D.int 8, D.int 1] (r1 : Int) = some (.int (m0 : Int)) := by
    have : r1 = 0 ∨ r1 = 1 ∨ r1 = 2 ∨ r1 = 3 ∨ r1 = 4 ∨ r1 = 5 := by omega
    rcases this with rfl | rfl | rfl | rfl | rfl | rfl
    · exact ⟨2, by omega, by omega, rfl⟩
    · exact ⟨3, by omega, by omega, rfl⟩
    · exact ⟨4, by omega, by omega, rfl⟩
    · exact ⟨5, by omega, by omega, rfl⟩
    · exact ⟨8, by omega, by omega, rfl⟩
    · exact ⟨1, by omega, by omega, rfl⟩
  have main : ∀ (m k : Nat), 0 < m → m ≤ 32 → k ≤ 20 → WR (sx (callD prog (n + 2)) (S.ret (E.tup (E.cons (E.v 3) (E.cons (E.bi BI.tuple (E.cons (E.lc LK.list [5] (G.n 5) (E.bi BI.range (E.cons (E.v 4) E.nil)) E.nil (E.call 5 (E.cons (E.v 0) (E.cons (E.v 3) E.nil)))) E.nil)) E.nil)))) [.mu true (.l d4), .im (.int (great : Int)), .im (.int (long : Int)), .im (.int (m : Int)), .im (.int (k : Int)), .un]) (Ends 3 fun t ws => ∃ (m : Nat) (sts : List (List (Nat × Nat))) (d' : List D), t = .im (.tup [.int (m : Int), .tup (stg sts)]) ∧ 0 < m ∧ m ≤ 32 ∧ sts.length ≤ 20 ∧ (∀ s ∈ sts, St m s ∧ s.length ≤ m / 2) ∧ ws = [.mu true (.l d'), .im (.int (great : Int)), .im (.int (long : Int))] ∧ StB d') := by
    intro m k hm0 hm hk
    have h1 : k < 1000000 := by omega
    simp -implicitDefEqProofs only [SwP.bnd_ok, SwP.bnd_bad, SwP.rof_some, SwP.ev_c, SwP.ev_v, SwP.kOp2, SwP.kOp, SwP.ev_op, SwP.kCmp2, SwP.kCmp, SwP.ev_cmp, SwP.cmpR_eq, SwP.mapB, SwP.mapD, SwP.mapO, SwP.kChain, SwP.kChain2, SwP.kChain3, SwP.kChain4, SwP.ev_chain, SwP.kNeg, SwP.ev_neg, SwP.tst_eq, SwP.kTru, SwP.kNo, SwP.ev_no, SwP.kAn, SwP.kAn2, SwP.ev_an, SwP.kOo, SwP.kOo2, SwP.ev_oo, SwP.kIfE, SwP.ev_ite, SwP.ev_tup, SwP.ev_lst, SwP.kIx, SwP.kIx2, SwP.ev_ix, SwP.kSl, SwP.kSl2, SwP.kSl3, SwP.ev_sl, SwP.kRv, SwP.ev_rv, SwP.kCall_eq, SwP.dcIf_t, SwP.dcAt_eq, SwP.dcBack_eq, SwP.ev_call, SwP.kBi, SwP.ev_len, SwP.ev_tuple, SwP.ev_list, SwP.ev_sorted, SwP.ev_sum, SwP.ev_repr, SwP.ev_isinst, SwP.ev_max, SwP.ev_min, SwP.ev_set, SwP.ev_int, SwP.kMtV2, SwP.kMtV, SwP.mtAt_t, SwP.mtAt_f, SwP.kMtS_eq, SwP.ev_mt, SwP.ev_lc, SwP.ev_col, SwP.kCol, SwP.evs_nil, SwP.evs_cons, SwP.kEvs, SwP.kEvs2, SwP.evt_nil, SwP.evt_cons, SwP.kEvt, SwP.kEvt2, SwP.evo_nil, SwP.evo_c, SwP.evo_v, SwP.evo_op, SwP.evo_neg, SwP.evo_call, SwP.kBd, SwP.evi_range, SwP.evi_zip, SwP.evi_enum, SwP.evi_rev, SwP.evi_v, SwP.evi_c, SwP.evi_ix, SwP.evi_sl, SwP.evi_tup, SwP.evi_lst, SwP.evi_call, SwP.evi_op, SwP.evi_rv, SwP.evi_lc, SwP.evi_sorted, SwP.kSeqOf, SwP.kWalk, SwP.eva_nil, SwP.eva_v, SwP.eva_c, SwP.eva_op, SwP.eva_neg, SwP.eva_ix, SwP.eva_sl, SwP.eva_rv, SwP.eva_tup, SwP.eva_lst, SwP.eva_call, SwP.eva_bi, SwP.eva_lc, SwP.eva_col, SwP.eva_ite, SwP.eva_mt, SwP.kAg, SwP.kAg2, SwP.kAgD, SwP.kAgM, SwP.agM2_mu, SwP.agV_mu, SwP.agV_im, SwP.agV_fz, SwP.sx_skip, SwP.sx_seq, SwP.kSeq_nx, SwP.kSeq_rt, SwP.kSeq_bk, SwP.kSeq_ct, SwP.kPut, SwP.kGive, SwP.sx_asgN, SwP.sx_asgT, SwP.kSix, SwP.kSix2, SwP.sixAt_t, SwP.sx_six, SwP.kSwp, SwP.kSwp2, SwP.kSwp4, SwP.kSwp5, SwP.swpAt_t, SwP.sx_swp, SwP.augP_s, SwP.kAug2_int, SwP.kAug, SwP.sx_aug, SwP.kEx, SwP.sx_ex, SwP.kRet, SwP.sx_retv, SwP.sx_ite, SwP.kIte_t, SwP.kIte_f, SwP.sx_for, SwP.sx_wh, SwP.sx_brk, SwP.sx_cont, SwP.rt_c, SwP.rt_op, SwP.rt_cmp, SwP.rt_chain, SwP.rt_neg, SwP.rt_no, SwP.rt_an, SwP.rt_oo, SwP.rt_ite, SwP.rt_tup, SwP.rt_lst, SwP.rt_ix, SwP.rt_sl, SwP.rt_rv, SwP.rt_call, SwP.rt_bi, SwP.rt_mt, SwP.rt_lc, SwP.rt_col, SwP.fr_im, SwP.fr_un, SwP.fr_mu, SwP.canSet_zero, SwP.canSet_succ, SwP.put_eq, SwP.putIf_t, SwP.putF_s, SwP.setW_zero, SwP.setW_succ, SwP.ofT_im, SwP.ofT_nu, SwP.rdV_eq, SwP.rdW_im, SwP.rdW_fz, SwP.rdW_l, SwP.rdW_s, SwP.rdW_kf, SwP.rdW_kt, SwP.isMu_eq, SwP.isMuW_l, SwP.isMuW_pop, SwP.isMuW_ix, SwP.isMuW_lix, SwP.isMuW_add, SwP.isMuW_im, SwP.isMuW_fz, SwP.storeAt_im, SwP.storeW_0, SwP.storeW_1, SwP.aug_add, SwP.aug_sub, SwP.retV_m, SwP.retV_im, SwP.retV_mt, SwP.retV_fz, SwP.agsOk_nil, SwP.agsOk_n, SwP.agsOk_s, SwP.ws_nil, SwP.ws_cons, SwP.gb_nil, SwP.gb_n, SwP.gb_s, SwP.gbW_m, SwP.gbW_fT, SwP.gbW_fF, SwP.give_n, SwP.give_t, SwP.give_l, SwP.give_p, SwP.gives_nil, SwP.gives_cons, SwP.givesK_s, SwP.wipe_nil, SwP.wipe_cons, SwP.unw_nil, SwP.unw_cons, SwP.b_add, SwP.b_sub, SwP.b_mul, SwP.mulOk_l, SwP.mulOk_r, SwP.b_fdiv, SwP.b_mod, SwP.b_pow18, SwP.c_lt, SwP.c_le, SwP.c_gt, SwP.c_ge, SwP.c_eqI, SwP.c_neI, SwP.c_isN, SwP.c_isnN, SwP.t_bl, SwP.t_int, SwP.t_tup, SwP.t_lst, SwP.t_nu, SwP.t_non, SwP.d_im, SwP.d_nu, SwP.intOf_i, SwP.seq_t, SwP.seq_l, SwP.seq_n, SwP.ix_t, SwP.ix_l, SwP.ix_n, SwP.atIx_0, SwP.atIx_1, SwP.atIx_2, SwP.atIx_m1, SwP.sl_t, SwP.sl_l, SwP.sl_n, SwP.rv_t, SwP.rv_l, SwP.rv_n, SwP.int_b, SwP.int_i, SwP.len_t, SwP.len_l, SwP.len_n, SwP.tuple_t, SwP.tuple_l, SwP.tuple_n, SwP.list_t, SwP.list_l, SwP.list_n, SwP.max_i, SwP.min_i, SwP.isi_ii, SwP.isi_ib, SwP.isi_bb, SwP.isi_tt, SwP.w_range, SwP.w_zipT, SwP.w_zipL, SwP.w_enumT, SwP.w_enumL, SwP.w_revT, List.getElem?_cons_zero, List.getElem?_cons_succ, List.contains_nil, List.contains_cons, Bool.not_true, Bool.not_false, Bool.true_and, Bool.and_true, Bool.false_or, Bool.or_false, List.getD_cons_zero, List.getD_cons_succ, Option.map_some, Int.reduceNeg, Nat.reduceLT, Nat.reduceLeDiff, Int.reduceLT, Int.reduceLE, Int.reduceEq, Int.reduceAdd, Int.reduceSub, Int.reduceMul, Nat.reduceAdd, Nat.reduceBEq, Nat.reduceEqDiff, decide_true, decide_false, SwP.mkTup_eq, SwP.mkLst_eq, SwP.b_addT, SwP.b_addNN, SwP.b_addIN, SwP.b_addNI, SwP.mt_append, SwP.mt_popAt, SwP.mt_pop, SwP.col_t, SwP.col_l, List.length_cons, List.length_nil, SwP.nums_len, SwP.prs_len, SwP.upto_len, SL, SwP.range_1, SwP.sorted_prs, SwP.sorted_prsI, SwP.lcIf_nil, SwP.lcIf_no, SwP.lcIf_cmp, SwP.lcIf_chain, SwP.lcIf_an, SwP.lcIf_oo, SwP.lcIf_call, SwP.c_neNN, SwP.c_eqNN, SwP.cut_takeI, SwP.cut_dropI, SwP.cut_m1, Int.reduceToNat, eq_self, Int.neg_neg, Int.toNat_natCast, h1]
    simp only [wr_bnd]
    refine wr_lc rfl (I := fun i acc env => ∃ di sts w5, env = [.mu true (.l di), .im (.int (great : Int)), .im (.int (long : Int)), .im (.int (m : Int)), .im (.int (k : Int)), w5] ∧ acc = stg sts ∧ sts.length = i ∧ (∀ s ∈ sts, St m s ∧ s.length ≤ m / 2) ∧ StB di) ⟨d4, [], _, rfl, rfl, rfl, by simp, hd4⟩ ?_ ?_
    · rintro i hi acc env ⟨di, sts, w5, rfl, rfl, hl, hs, hdi⟩
      rw [upto_len] at hi
      obtain ⟨_, _, e5, s, d5, rfl, hst, hsl, rfl, hd5⟩ := stageB n hdi (m := m) (by omega)
      refine ⟨_, by simp -implicitDefEqProofs only [SwP.bnd_ok, SwP.bnd_bad, SwP.rof_some, SwP.ev_c, SwP.ev_v, SwP.kOp2, SwP.kOp, SwP.ev_op, SwP.kCmp2, SwP.kCmp, SwP.ev_cmp, SwP.cmpR_eq, SwP.mapB, SwP.mapD, SwP.mapO, SwP.kChain, SwP.kChain2, SwP.kChain3, SwP.kChain4, SwP.ev_chain, SwP.kNeg, SwP.ev_neg, SwP.tst_eq, SwP.kTru, SwP.kNo, SwP.ev_no, SwP.kAn, SwP.kAn2, SwP.ev_an, SwP.kOo, SwP.kOo2, SwP.ev_oo, SwP.kIfE, SwP.ev_ite, SwP.ev_tup, SwP.ev_lst, SwP.kIx, SwP.kIx2, SwP.ev_ix, SwP.kSl, SwP.kSl2, SwP.kSl3, SwP.ev_sl, SwP.kRv, SwP.ev_rv, SwP.kCall_eq, SwP.dcIf_t, SwP.dcAt_eq, SwP.dcBack_eq, SwP.ev_call, SwP.kBi, SwP.ev_len, SwP.ev_tuple, SwP.ev_list, SwP.ev_sorted, SwP.ev_sum, SwP.ev_repr, SwP.ev_isinst, SwP.ev_max, SwP.ev_min, SwP.ev_set, SwP.ev_int, SwP.kMtV2, SwP.kMtV, SwP.mtAt_t, SwP.mtAt_f, SwP.kMtS_eq, SwP.ev_mt, SwP.ev_lc, SwP.ev_col, SwP.kCol, SwP.evs_nil, SwP.evs_cons, SwP.kEvs, SwP.kEvs2, SwP.evt_nil, SwP.evt_cons, SwP.kEvt, SwP.kEvt2, SwP.evo_nil, SwP.evo_c, SwP.evo_v, SwP.evo_op, SwP.evo_neg, SwP.evo_call, SwP.kBd, SwP.evi_range, SwP.evi_zip, SwP.evi_enum, SwP.evi_rev, SwP.evi_v, SwP.evi_c, SwP.evi_ix, SwP.evi_sl, SwP.evi_tup, SwP.evi_lst, SwP.evi_call, SwP.evi_op, SwP.evi_rv, SwP.evi_lc, SwP.evi_sorted, SwP.kSeqOf, SwP.kWalk, SwP.eva_nil, SwP.eva_v, SwP.eva_c, SwP.eva_op, SwP.eva_neg, SwP.eva_ix, SwP.eva_sl, SwP.eva_rv, SwP.eva_tup, SwP.eva_lst, SwP.eva_call, SwP.eva_bi, SwP.eva_lc, SwP.eva_col, SwP.eva_ite, SwP.eva_mt, SwP.kAg, SwP.kAg2, SwP.kAgD, SwP.kAgM, SwP.agM2_mu, SwP.agV_mu, SwP.agV_im, SwP.agV_fz, SwP.sx_skip, SwP.sx_seq, SwP.kSeq_nx, SwP.kSeq_rt, SwP.kSeq_bk, SwP.kSeq_ct, SwP.kPut, SwP.kGive, SwP.sx_asgN, SwP.sx_asgT, SwP.kSix, SwP.kSix2, SwP.sixAt_t, SwP.sx_six, SwP.kSwp, SwP.kSwp2, SwP.kSwp4, SwP.kSwp5, SwP.swpAt_t, SwP.sx_swp, SwP.augP_s, SwP.kAug2_int, SwP.kAug, SwP.sx_aug, SwP.kEx, SwP.sx_ex, SwP.kRet, SwP.sx_retv, SwP.sx_ite, SwP.kIte_t, SwP.kIte_f, SwP.sx_for, SwP.sx_wh, SwP.sx_brk, SwP.sx_cont, SwP.rt_c, SwP.rt_op, SwP.rt_cmp, SwP.rt_chain, SwP.rt_neg, SwP.rt_no, SwP.rt_an, SwP.rt_oo, SwP.rt_ite, SwP.rt_tup, SwP.rt_lst, SwP.rt_ix, SwP.rt_sl, SwP.rt_rv, SwP.rt_call, SwP.rt_bi, SwP.rt_mt, SwP.rt_lc, SwP.rt_col, SwP.fr_im, SwP.fr_un, SwP.fr_mu, SwP.canSet_zero, SwP.canSet_succ, SwP.put_eq, SwP.putIf_t, SwP.putF_s, SwP.setW_zero, SwP.setW_succ, SwP.ofT_im, SwP.ofT_nu, SwP.rdV_eq, SwP.rdW_im, SwP.rdW_fz, SwP.rdW_l, SwP.rdW_s, SwP.rdW_kf, SwP.rdW_kt, SwP.isMu_eq, SwP.isMuW_l, SwP.isMuW_pop, SwP.isMuW_ix, SwP.isMuW_lix, SwP.isMuW_add, SwP.isMuW_im, SwP.isMuW_fz, SwP.storeAt_im, SwP.storeW_0, SwP.storeW_1, SwP.aug_add, SwP.aug_sub, SwP.retV_m, SwP.retV_im, SwP.retV_mt, SwP.retV_fz, SwP.agsOk_nil, SwP.agsOk_n, SwP.agsOk_s, SwP.ws_nil, SwP.ws_cons, SwP.gb_nil, SwP.gb_n, SwP.gb_s, SwP.gbW_m, SwP.gbW_fT, SwP.gbW_fF, SwP.give_n, SwP.give_t, SwP.give_l, SwP.give_p, SwP.gives_nil, SwP.gives_cons, SwP.givesK_s, SwP.wipe_nil, SwP.wipe_cons, SwP.unw_nil, SwP.unw_cons, SwP.b_add, SwP.b_sub, SwP.b_mul, SwP.mulOk_l, SwP.mulOk_r, SwP.b_fdiv, SwP.b_mod, SwP.b_pow18, SwP.c_lt, SwP.c_le, SwP.c_gt, SwP.c_ge, SwP.c_eqI, SwP.c_neI, SwP.c_isN, SwP.c_isnN, SwP.t_bl, SwP.t_int, SwP.t_tup, SwP.t_lst, SwP.t_nu, SwP.t_non, SwP.d_im, SwP.d_nu, SwP.intOf_i, SwP.seq_t, SwP.seq_l, SwP.seq_n, SwP.ix_t, SwP.ix_l, SwP.ix_n, SwP.atIx_0, SwP.atIx_1, SwP.atIx_2, SwP.atIx_m1, SwP.sl_t, SwP.sl_l, SwP.sl_n, SwP.rv_t, SwP.rv_l, SwP.rv_n, SwP.int_b, SwP.int_i, SwP.len_t, SwP.len_l, SwP.len_n, SwP.tuple_t, SwP.tuple_l, SwP.tuple_n, SwP.list_t, SwP.list_l, SwP.list_n, SwP.max_i, SwP.min_i, SwP.isi_ii, SwP.isi_ib, SwP.isi_bb, SwP.isi_tt, SwP.w_range, SwP.w_zipT, SwP.w_zipL, SwP.w_enumT, SwP.w_enumL, SwP.w_revT, List.getElem?_cons_zero, List.getElem?_cons_succ, List.contains_nil, List.contains_cons, Bool.not_true, Bool.not_false, Bool.true_and, Bool.and_true, Bool.false_or, Bool.or_false, List.getD_cons_zero, List.getD_cons_succ, Option.map_some, Int.reduceNeg, Nat.reduceLT, Nat.reduceLeDiff, Int.reduceLT, Int.reduceLE, Int.reduceEq, Int.reduceAdd, Int.reduceSub, Int.reduceMul, Nat.reduceAdd, Nat.reduceBEq, Nat.reduceEqDiff, decide_true, decide_false, SwP.mkTup_eq, SwP.mkLst_eq, SwP.b_addT, SwP.b_addNN, SwP.b_addIN, SwP.b_addNI, SwP.mt_append, SwP.mt_popAt, SwP.mt_pop, SwP.col_t, SwP.col_l, List.length_cons, List.length_nil, SwP.nums_len, SwP.prs_len, SwP.upto_len, SL, SwP.range_1, SwP.sorted_prs, SwP.sorted_prsI, SwP.lcIf_nil, SwP.lcIf_no, SwP.lcIf_cmp, SwP.lcIf_chain, SwP.lcIf_an, SwP.lcIf_oo, SwP.lcIf_call, SwP.c_neNN, SwP.c_eqNN, SwP.cut_takeI, SwP.cut_dropI, SwP.cut_m1, Int.reduceToNat, eq_self, Int.neg_neg, Int.toNat_natCast, upto_get]; rfl, ?_⟩
      simp -implicitDefEqProofs only [SwP.bnd_ok, SwP.bnd_bad, SwP.rof_some, SwP.ev_c, SwP.ev_v, SwP.kOp2, SwP.kOp, SwP.ev_op, SwP.kCmp2, SwP.kCmp, SwP.ev_cmp, SwP.cmpR_eq, SwP.mapB, SwP.mapD, SwP.mapO, SwP.kChain, SwP.kChain2, SwP.kChain3, SwP.kChain4, SwP.ev_chain, SwP.kNeg, SwP.ev_neg, SwP.tst_eq, SwP.kTru, SwP.kNo, SwP.ev_no, SwP.kAn, SwP.kAn2, SwP.ev_an, SwP.kOo, SwP.kOo2, SwP.ev_oo, SwP.kIfE, SwP.ev_ite, SwP.ev_tup, SwP.ev_lst, SwP.kIx, SwP.kIx2, SwP.ev_ix, SwP.kSl, SwP.kSl2, SwP.kSl3, SwP.ev_sl, SwP.kRv, SwP.ev_rv, SwP.kCall_eq, SwP.dcIf_t, SwP.dcAt_eq, SwP.dcBack_eq, SwP.ev_call, SwP.kBi, SwP.ev_len, SwP.ev_tuple, SwP.ev_list, SwP.ev_sorted, SwP.ev_sum, SwP.ev_repr, SwP.ev_isinst, SwP.ev_max, SwP.ev_min, SwP.ev_set, SwP.ev_int, SwP.kMtV2, SwP.kMtV, SwP.mtAt_t, SwP.mtAt_f, SwP.kMtS_eq, SwP.ev_mt, SwP.ev_lc, SwP.ev_col, SwP.kCol, SwP.evs_nil, SwP.evs_cons, SwP.kEvs, SwP.kEvs2, SwP.evt_nil, SwP.evt_cons, SwP.kEvt, SwP.kEvt2, SwP.evo_nil, SwP.evo_c, SwP.evo_v, SwP.evo_op, SwP.evo_neg, SwP.evo_call, SwP.kBd, SwP.evi_range, SwP.evi_zip, SwP.evi_enum, SwP.evi_rev, SwP.evi_v, SwP.evi_c, SwP.evi_ix, SwP.evi_sl, SwP.evi_tup, SwP.evi_lst, SwP.evi_call, SwP.evi_op, SwP.evi_rv, SwP.evi_lc, SwP.evi_sorted, SwP.kSeqOf, SwP.kWalk, SwP.eva_nil, SwP.eva_v, SwP.eva_c, SwP.eva_op, SwP.eva_neg, SwP.eva_ix, SwP.eva_sl, SwP.eva_rv, SwP.eva_tup, SwP.eva_lst, SwP.eva_call, SwP.eva_bi, SwP.eva_lc, SwP.eva_col, SwP.eva_ite, SwP.eva_mt, SwP.kAg, SwP.kAg2, SwP.kAgD, SwP.kAgM, SwP.agM2_mu, SwP.agV_mu, SwP.agV_im, SwP.agV_fz, SwP.sx_skip, SwP.sx_seq, SwP.kSeq_nx, SwP.kSeq_rt, SwP.kSeq_bk, SwP.kSeq_ct, SwP.kPut, SwP.kGive, SwP.sx_asgN, SwP.sx_asgT, SwP.kSix, SwP.kSix2, SwP.sixAt_t, SwP.sx_six, SwP.kSwp, SwP.kSwp2, SwP.kSwp4, SwP.kSwp5, SwP.swpAt_t, SwP.sx_swp, SwP.augP_s, SwP.kAug2_int, SwP.kAug, SwP.sx_aug, SwP.kEx, SwP.sx_ex, SwP.kRet, SwP.sx_retv, SwP.sx_ite, SwP.kIte_t, SwP.kIte_f, SwP.sx_for, SwP.sx_wh, SwP.sx_brk, SwP.sx_cont, SwP.rt_c, SwP.rt_op, SwP.rt_cmp, SwP.rt_chain, SwP.rt_neg, SwP.rt_no, SwP.rt_an, SwP.rt_oo, SwP.rt_ite, SwP.rt_tup, SwP.rt_lst, SwP.rt_ix, SwP.rt_sl, SwP.rt_rv, SwP.rt_call, SwP.rt_bi, SwP.rt_mt, SwP.rt_lc, SwP.rt_col, SwP.fr_im, SwP.fr_un, SwP.fr_mu, SwP.canSet_zero, SwP.canSet_succ, SwP.put_eq, SwP.putIf_t, SwP.putF_s, SwP.setW_zero, SwP.setW_succ, SwP.ofT_im, SwP.ofT_nu, SwP.rdV_eq, SwP.rdW_im, SwP.rdW_fz, SwP.rdW_l, SwP.rdW_s, SwP.rdW_kf, SwP.rdW_kt, SwP.isMu_eq, SwP.isMuW_l, SwP.isMuW_pop, SwP.isMuW_ix, SwP.isMuW_lix, SwP.isMuW_add, SwP.isMuW_im, SwP.isMuW_fz, SwP.storeAt_im, SwP.storeW_0, SwP.storeW_1, SwP.aug_add, SwP.aug_sub, SwP.retV_m, SwP.retV_im, SwP.retV_mt, SwP.retV_fz, SwP.agsOk_nil, SwP.agsOk_n, SwP.agsOk_s, SwP.ws_nil, SwP.ws_cons, SwP.gb_nil, SwP.gb_n, SwP.gb_s, SwP.gbW_m, SwP.gbW_fT, SwP.gbW_fF, SwP.give_n, SwP.give_t, SwP.give_l, SwP.give_p, SwP.gives_nil, SwP.gives_cons, SwP.givesK_s, SwP.wipe_nil, SwP.wipe_cons, SwP.unw_nil, SwP.unw_cons, SwP.b_add, SwP.b_sub, SwP.b_mul, SwP.mulOk_l, SwP.mulOk_r, SwP.b_fdiv, SwP.b_mod, SwP.b_pow18, SwP.c_lt, SwP.c_le, SwP.c_gt, SwP.c_ge, SwP.c_eqI, SwP.c_neI, SwP.c_isN, SwP.c_isnN, SwP.t_bl, SwP.t_int, SwP.t_tup, SwP.t_lst, SwP.t_nu, SwP.t_non, SwP.d_im, SwP.d_nu, SwP.intOf_i, SwP.seq_t, SwP.seq_l, SwP.seq_n, SwP.ix_t, SwP.ix_l, SwP.ix_n, SwP.atIx_0, SwP.atIx_1, SwP.atIx_2, SwP.atIx_m1, SwP.sl_t, SwP.sl_l, SwP.sl_n, SwP.rv_t, SwP.rv_l, SwP.rv_n, SwP.int_b, SwP.int_i, SwP.len_t, SwP.len_l, SwP.len_n, SwP.tuple_t, SwP.tuple_l, SwP.tuple_n, SwP.list_t, SwP.list_l, SwP.list_n, SwP.max_i, SwP.min_i, SwP.isi_ii, SwP.isi_ib, SwP.isi_bb, SwP.isi_tt, SwP.w_range, SwP.w_zipT, SwP.w_zipL, SwP.w_enumT, SwP.w_enumL, SwP.w_revT, List.getElem?_cons_zero, List.getElem?_cons_succ, List.contains_nil, List.contains_cons, Bool.not_true, Bool.not_false, Bool.true_and, Bool.and_true, Bool.false_or, Bool.or_false, List.getD_cons_zero, List.getD_cons_succ, Option.map_some, Int.reduceNeg, Nat.reduceLT, Nat.reduceLeDiff, Int.reduceLT, Int.reduceLE, Int.reduceEq, Int.reduceAdd, Int.reduceSub, Int.reduceMul, Nat.reduceAdd, Nat.reduceBEq, Nat.reduceEqDiff, decide_true, decide_false, SwP.mkTup_eq, SwP.mkLst_eq, SwP.b_addT, SwP.b_addNN, SwP.b_addIN, SwP.b_addNI, SwP.mt_append, SwP.mt_popAt, SwP.mt_pop, SwP.col_t, SwP.col_l, List.length_cons, List.length_nil, SwP.nums_len, SwP.prs_len, SwP.upto_len, SL, SwP.range_1, SwP.sorted_prs, SwP.sorted_prsI, SwP.lcIf_nil, SwP.lcIf_no, SwP.lcIf_cmp, SwP.lcIf_chain, SwP.lcIf_an, SwP.lcIf_oo, SwP.lcIf_call, SwP.c_neNN, SwP.c_eqNN, SwP.cut_takeI, SwP.cut_dropI, SwP.cut_m1, Int.reduceToNat, eq_self, Int.neg_neg, Int.toNat_natCast, e5, wr_ok]
      refine ⟨_, rfl, by rw [stg_len]; omega, d5, sts ++ [s], _, rfl, stg_snoc, by simp [hl], fun x hx => ?_, hd5⟩
      rcases List.mem_append.mp hx with h | h
      · exact hs x h
      · simp only [List.mem_singleton] at h
        subst h
        exact ⟨hst, hsl⟩
    · rintro acc env ⟨di, sts, w5, rfl, rfl, hl, hs, hdi⟩
      rw [upto_len] at hl
      simp -implicitDefEqProofs only [SwP.bnd_ok, SwP.bnd_bad, SwP.rof_some, SwP.ev_c, SwP.ev_v, SwP.kOp2, SwP.kOp, SwP.ev_op, SwP.kCmp2, SwP.kCmp, SwP.ev_cmp, SwP.cmpR_eq, SwP.mapB, SwP.mapD, SwP.mapO, SwP.kChain, SwP.kChain2, SwP.kChain3, SwP.kChain4, SwP.ev_chain, SwP.kNeg, SwP.ev_neg, SwP.tst_eq, SwP.kTru, SwP.kNo, SwP.ev_no, SwP.kAn, SwP.kAn2, SwP.ev_an, SwP.kOo, SwP.kOo2, SwP.ev_oo, SwP.kIfE, SwP.ev_ite, SwP.ev_tup, SwP.ev_lst, SwP.kIx, SwP.kIx2, SwP.ev_ix, SwP.kSl, SwP.kSl2, SwP.kSl3, SwP.ev_sl, SwP.kRv, SwP.ev_rv, SwP.kCall_eq, SwP.dcIf_t, SwP.dcAt_eq, SwP.dcBack_eq, SwP.ev_call, SwP.kBi, SwP.ev_len, SwP.ev_tuple, SwP.ev_list, SwP.ev_sorted, SwP.ev_sum, SwP.ev_repr, SwP.ev_isinst, SwP.ev_max, SwP.ev_min, SwP.ev_set, SwP.ev_int, SwP.kMtV2, SwP.kMtV, SwP.mtAt_t, SwP.mtAt_f, SwP.kMtS_eq, SwP.ev_mt, SwP.ev_lc, SwP.ev_col, SwP.kCol, SwP.evs_nil, SwP.evs_cons, SwP.kEvs, SwP.kEvs2, SwP.evt_nil, SwP.evt_cons, SwP.kEvt, SwP.kEvt2, SwP.evo_nil, SwP.evo_c, SwP.evo_v, SwP.evo_op, SwP.evo_neg, SwP.evo_call, SwP.kBd, SwP.evi_range, SwP.evi_zip, SwP.evi_enum, SwP.evi_rev, SwP.evi_v, SwP.evi_c, SwP.evi_ix, SwP.evi_sl, SwP.evi_tup, SwP.evi_lst, SwP.evi_call, SwP.evi_op, SwP.evi_rv, SwP.evi_lc, SwP.evi_sorted, SwP.kSeqOf, SwP.kWalk, SwP.eva_nil, SwP.eva_v, SwP.eva_c, SwP.eva_op, SwP.eva_neg, SwP.eva_ix, SwP.eva_sl, SwP.eva_rv, SwP.eva_tup, SwP.eva_lst, SwP.eva_call, SwP.eva_bi, SwP.eva_lc, SwP.eva_col, SwP.eva_ite, SwP.eva_mt, SwP.kAg, SwP.kAg2, SwP.kAgD, SwP.kAgM, SwP.agM2_mu, SwP.agV_mu, SwP.agV_im, SwP.agV_fz, SwP.sx_skip, SwP.sx_seq, SwP.kSeq_nx, SwP.kSeq_rt, SwP.kSeq_bk, SwP.kSeq_ct, SwP.kPut, SwP.kGive, SwP.sx_asgN, SwP.sx_asgT, SwP.kSix, SwP.kSix2, SwP.sixAt_t, SwP.sx_six, SwP.kSwp, SwP.kSwp2, SwP.kSwp4, SwP.kSwp5, SwP.swpAt_t, SwP.sx_swp, SwP.augP_s, SwP.kAug2_int, SwP.kAug, SwP.sx_aug, SwP.kEx, SwP.sx_ex, SwP.kRet, SwP.sx_retv, SwP.sx_ite, SwP.kIte_t, SwP.kIte_f, SwP.sx_for, SwP.sx_wh, SwP.sx_brk, SwP.sx_cont, SwP.rt_c, SwP.rt_op, SwP.rt_cmp, SwP.rt_chain, SwP.rt_neg, SwP.rt_no, SwP.rt_an, SwP.rt_oo, SwP.rt_ite, SwP.rt_tup, SwP.rt_lst, SwP.rt_ix, SwP.rt_sl, SwP.rt_rv, SwP.rt_call, SwP.rt_bi, SwP.rt_mt, SwP.rt_lc, SwP.rt_col, SwP.fr_im, SwP.fr_un, SwP.fr_mu, SwP.canSet_zero, SwP.canSet_succ, SwP.put_eq, SwP.putIf_t, SwP.putF_s, SwP.setW_zero, SwP.setW_succ, SwP.ofT_im, SwP.ofT_nu, SwP.rdV_eq, SwP.rdW_im, SwP.rdW_fz, SwP.rdW_l, SwP.rdW_s, SwP.rdW_kf, SwP.rdW_kt, SwP.isMu_eq, SwP.isMuW_l, SwP.isMuW_pop, SwP.isMuW_ix, SwP.isMuW_lix, SwP.isMuW_add, SwP.isMuW_im, SwP.isMuW_fz, SwP.storeAt_im, SwP.storeW_0, SwP.storeW_1, SwP.aug_add, SwP.aug_sub, SwP.retV_m, SwP.retV_im, SwP.retV_mt, SwP.retV_fz, SwP.agsOk_nil, SwP.agsOk_n, SwP.agsOk_s, SwP.ws_nil, SwP.ws_cons, SwP.gb_nil, SwP.gb_n, SwP.gb_s, SwP.gbW_m, SwP.gbW_fT, SwP.gbW_fF, SwP.give_n, SwP.give_t, SwP.give_l, SwP.give_p, SwP.gives_nil, SwP.gives_cons, SwP.givesK_s, SwP.wipe_nil, SwP.wipe_cons, SwP.unw_nil, SwP.unw_cons, SwP.b_add, SwP.b_sub, SwP.b_mul, SwP.mulOk_l, SwP.mulOk_r, SwP.b_fdiv, SwP.b_mod, SwP.b_pow18, SwP.c_lt, SwP.c_le, SwP.c_gt, SwP.c_ge, SwP.c_eqI, SwP.c_neI, SwP.c_isN, SwP.c_isnN, SwP.t_bl, SwP.t_int, SwP.t_tup, SwP.t_lst, SwP.t_nu, SwP.t_non, SwP.d_im, SwP.d_nu, SwP.intOf_i, SwP.seq_t, SwP.seq_l, SwP.seq_n, SwP.ix_t, SwP.ix_l, SwP.ix_n, SwP.atIx_0, SwP.atIx_1, SwP.atIx_2, SwP.atIx_m1, SwP.sl_t, SwP.sl_l, SwP.sl_n, SwP.rv_t, SwP.rv_l, SwP.rv_n, SwP.int_b, SwP.int_i, SwP.len_t, SwP.len_l, SwP.len_n, SwP.tuple_t, SwP.tuple_l, SwP.tuple_n, SwP.list_t, SwP.list_l, SwP.list_n, SwP.max_i, SwP.min_i, SwP.isi_ii, SwP.isi_ib, SwP.isi_bb, SwP.isi_tt, SwP.w_range, SwP.w_zipT, SwP.w_zipL, SwP.w_enumT, SwP.w_enumL, SwP.w_revT, List.getElem?_cons_zero, List.getElem?_cons_succ, List.contains_nil, List.contains_cons, Bool.not_true, Bool.not_false, Bool.true_and, Bool.and_true, Bool.false_or, Bool.or_false, List.getD_cons_zero, List.getD_cons_succ, Option.map_some, Int.reduceNeg, Nat.reduceLT, Nat.reduceLeDiff, Int.reduceLT, Int.reduceLE, Int.reduceEq, Int.reduceAdd, Int.reduceSub, Int.reduceMul, Nat.reduceAdd, Nat.reduceBEq, Nat.reduceEqDiff, decide_true, decide_false, SwP.mkTup_eq, SwP.mkLst_eq, SwP.b_addT, SwP.b_addNN, SwP.b_addIN, SwP.b_addNI, SwP.mt_append, SwP.mt_popAt, SwP.mt_pop, SwP.col_t, SwP.col_l, List.length_cons, List.length_nil, SwP.nums_len, SwP.prs_len, SwP.upto_len, SL, SwP.range_1, SwP.sorted_prs, SwP.sorted_prsI, SwP.lcIf_nil, SwP.lcIf_no, SwP.lcIf_cmp, SwP.lcIf_chain, SwP.lcIf_an, SwP.lcIf_oo, SwP.lcIf_call, SwP.c_neNN, SwP.c_eqNN, SwP.cut_takeI, SwP.cut_dropI, SwP.cut_m1, Int.reduceToNat, eq_self, Int.neg_neg, Int.toNat_natCast, lcT, wr_ok]
      exact ⟨m, sts, di, rfl, hm0, hm, by omega, hs, rfl, hdi⟩
  unfold f_l_net
  by_cases c3 : (r3 : Int) = 5 <;> by_cases c4 : (r4 : Int) = 5
  · have mm := main great long hg0 hg hlo
    rw [c3] at e3
    rw [c4] at e4
    simp -implicitDefEqProofs only [SwP.bnd_ok, SwP.bnd_bad, SwP.rof_some, SwP.ev_c, SwP.ev_v, SwP.kOp2, SwP.kOp, SwP.ev_op, SwP.kCmp2, SwP.kCmp, SwP.ev_cmp, SwP.cmpR_eq, SwP.mapB, SwP.mapD, SwP.mapO, SwP.kChain, SwP.kChain2, SwP.kChain3, SwP.kChain4, SwP.ev_chain, SwP.kNeg, SwP.ev_neg, SwP.tst_eq, SwP.kTru, SwP.kNo, SwP.ev_no, SwP.kAn, SwP.kAn2, SwP.ev_an, SwP.kOo, SwP.kOo2, SwP.ev_oo, SwP.kIfE, SwP.ev_ite, SwP.ev_tup, SwP.ev_lst, SwP.kIx, SwP.kIx2, SwP.ev_ix, SwP.kSl, SwP.kSl2, SwP.kSl3, SwP.ev_sl, SwP.kRv, SwP.ev_rv, SwP.kCall_eq, SwP.dcIf_t, SwP.dcAt_eq, SwP.dcBack_eq, SwP.ev_call, SwP.kBi, SwP.ev_len, SwP.ev_tuple, SwP.ev_list, SwP.ev_sorted, SwP.ev_sum, SwP.ev_repr, SwP.ev_isinst, SwP.ev_max, SwP.ev_min, SwP.ev_set, SwP.ev_int, SwP.kMtV2, SwP.kMtV, SwP.mtAt_t, SwP.mtAt_f, SwP.kMtS_eq, SwP.ev_mt, SwP.ev_lc, SwP.ev_col, SwP.kCol, SwP.evs_nil, SwP.evs_cons, SwP.kEvs, SwP.kEvs2, SwP.evt_nil, SwP.evt_cons, SwP.kEvt, SwP.kEvt2, SwP.evo_nil, SwP.evo_c, SwP.evo_v, SwP.evo_op, SwP.evo_neg, SwP.evo_call, SwP.kBd, SwP.evi_range, SwP.evi_zip, SwP.evi_enum, SwP.evi_rev, SwP.evi_v, SwP.evi_c, SwP.evi_ix, SwP.evi_sl, SwP.evi_tup, SwP.evi_lst, SwP.evi_call, SwP.evi_op, SwP.evi_rv, SwP.evi_lc, SwP.evi_sorted, SwP.kSeqOf, SwP.kWalk, SwP.eva_nil, SwP.eva_v, SwP.eva_c, SwP.eva_op, SwP.eva_neg, SwP.eva_ix, SwP.eva_sl, SwP.eva_rv, SwP.eva_tup, SwP.eva_lst, SwP.eva_call, SwP.eva_bi, SwP.eva_lc, SwP.eva_col, SwP.eva_ite, SwP.eva_mt, SwP.kAg, SwP.kAg2, SwP.kAgD, SwP.kAgM, SwP.agM2_mu, SwP.agV_mu, SwP.agV_im, SwP.agV_fz, SwP.sx_skip, SwP.sx_seq, SwP.kSeq_nx, SwP.kSeq_rt, SwP.kSeq_bk, SwP.kSeq_ct, SwP.kPut, SwP.kGive, SwP.sx_asgN, SwP.sx_asgT, SwP.kSix, SwP.kSix2, SwP.sixAt_t, SwP.sx_six, SwP.kSwp, SwP.kSwp2, SwP.kSwp4, SwP.kSwp5, SwP.swpAt_t, SwP.sx_swp, SwP.augP_s, SwP.kAug2_int, SwP.kAug, SwP.sx_aug, SwP.kEx, SwP.sx_ex, SwP.kRet, SwP.sx_retv, SwP.sx_ite, SwP.kIte_t, SwP.kIte_f, SwP.sx_for, SwP.sx_wh, SwP.sx_brk, SwP.sx_cont, SwP.rt_c, SwP.rt_op, SwP.rt_cmp, SwP.rt_chain, SwP.rt_neg, SwP.rt_no, SwP.rt_an, SwP.rt_oo, SwP.rt_ite, SwP.rt_tup, SwP.rt_lst, SwP.rt_ix, SwP.rt_sl, SwP.rt_rv, SwP.rt_call, SwP.rt_bi, SwP.rt_mt, SwP.rt_lc, SwP.rt_col, SwP.fr_im, SwP.fr_un, SwP.fr_mu, SwP.canSet_zero, SwP.canSet_succ, SwP.put_eq, SwP.putIf_t, SwP.putF_s, SwP.setW_zero, SwP.setW_succ, SwP.ofT_im, SwP.ofT_nu, SwP.rdV_eq, SwP.rdW_im, SwP.rdW_fz, SwP.rdW_l, SwP.rdW_s, SwP.rdW_kf, SwP.rdW_kt, SwP.isMu_eq, SwP.isMuW_l, SwP.isMuW_pop, SwP.isMuW_ix, SwP.isMuW_lix, SwP.isMuW_add, SwP.isMuW_im, SwP.isMuW_fz, SwP.storeAt_im, SwP.storeW_0, SwP.storeW_1, SwP.aug_add, SwP.aug_sub, SwP.retV_m, SwP.retV_im, SwP.retV_mt, SwP.retV_fz, SwP.agsOk_nil, SwP.agsOk_n, SwP.agsOk_s, SwP.ws_nil, SwP.ws_cons, SwP.gb_nil, SwP.gb_n, SwP.gb_s, SwP.gbW_m, SwP.gbW_fT, SwP.gbW_fF, SwP.give_n, SwP.give_t, SwP.give_l, SwP.give_p, SwP.gives_nil, SwP.gives_cons, SwP.givesK_s, SwP.wipe_nil, SwP.wipe_cons, SwP.unw_nil, SwP.unw_cons, SwP.b_add, SwP.b_sub, SwP.b_mul, SwP.mulOk_l, SwP.mulOk_r, SwP.b_fdiv, SwP.b_mod, SwP.b_pow18, SwP.c_lt, SwP.c_le, SwP.c_gt, SwP.c_ge, SwP.c_eqI, SwP.c_neI, SwP.c_isN, SwP.c_isnN, SwP.t_bl, SwP.t_int, SwP.t_tup, SwP.t_lst, SwP.t_nu, SwP.t_non, SwP.d_im, SwP.d_nu, SwP.intOf_i, SwP.seq_t, SwP.seq_l, SwP.seq_n, SwP.ix_t, SwP.ix_l, SwP.ix_n, SwP.atIx_0, SwP.atIx_1, SwP.atIx_2, SwP.atIx_m1, SwP.sl_t, SwP.sl_l, SwP.sl_n, SwP.rv_t, SwP.rv_l, SwP.rv_n, SwP.int_b, SwP.int_i, SwP.len_t, SwP.len_l, SwP.len_n, SwP.tuple_t, SwP.tuple_l, SwP.tuple_n, SwP.list_t, SwP.list_l, SwP.list_n, SwP.max_i, SwP.min_i, SwP.isi_ii, SwP.isi_ib, SwP.isi_bb, SwP.isi_tt, SwP.w_range, SwP.w_zipT, SwP.w_zipL, SwP.w_enumT, SwP.w_enumL, SwP.w_revT, List.getElem?_cons_zero, List.getElem?_cons_succ, List.contains_nil, List.contains_cons, Bool.not_true, Bool.not_false, Bool.true_and, Bool.and_true, Bool.false_or, Bool.or_false, List.getD_cons_zero, List.getD_cons_succ, Option.map_some, Int.reduceNeg, Nat.reduceLT, Nat.reduceLeDiff, Int.reduceLT, Int.reduceLE, Int.reduceEq, Int.reduceAdd, Int.reduceSub, Int.reduceMul, Nat.reduceAdd, Nat.reduceBEq, Nat.reduceEqDiff, decide_true, decide_false, SwP.mkTup_eq, SwP.mkLst_eq, SwP.b_addT, SwP.b_addNN, SwP.b_addIN, SwP.b_addNI, SwP.mt_append, SwP.mt_popAt, SwP.mt_pop, SwP.col_t, SwP.col_l, List.length_cons, List.length_nil, SwP.nums_len, SwP.prs_len, SwP.upto_len, SL, SwP.range_1, SwP.sorted_prs, SwP.sorted_prsI, SwP.lcIf_nil, SwP.lcIf_no, SwP.lcIf_cmp, SwP.lcIf_chain, SwP.lcIf_an, SwP.lcIf_oo, SwP.lcIf_call, SwP.c_neNN, SwP.c_eqNN, SwP.cut_takeI, SwP.cut_dropI, SwP.cut_m1, Int.reduceToNat, eq_self, Int.neg_neg, Int.toNat_natCast] at mm
    simp -implicitDefEqProofs only [SwP.bnd_ok, SwP.bnd_bad, SwP.rof_some, SwP.ev_c, SwP.ev_v, SwP.kOp2, SwP.kOp, SwP.ev_op, SwP.kCmp2, SwP.kCmp, SwP.ev_cmp, SwP.cmpR_eq, SwP.mapB, SwP.mapD, SwP.mapO, SwP.kChain, SwP.kChain2, SwP.kChain3, SwP.kChain4, SwP.ev_chain, SwP.kNeg, SwP.ev_neg, SwP.tst_eq, SwP.kTru, SwP.kNo, SwP.ev_no, SwP.kAn, SwP.kAn2, SwP.ev_an, SwP.kOo, SwP.kOo2, SwP.ev_oo, SwP.kIfE, SwP.ev_ite, SwP.ev_tup, SwP.ev_lst, SwP.kIx, SwP.kIx2, SwP.ev_ix, SwP.kSl, SwP.kSl2, SwP.kSl3, SwP.ev_sl, SwP.kRv, SwP.ev_rv, SwP.kCall_eq, SwP.dcIf_t, SwP.dcAt_eq, SwP.dcBack_eq, SwP.ev_call, SwP.kBi, SwP.ev_len, SwP.ev_tuple, SwP.ev_list, SwP.ev_sorted, SwP.ev_sum, SwP.ev_repr, SwP.ev_isinst, SwP.ev_max, SwP.ev_min, SwP.ev_set, SwP.ev_int, SwP.kMtV2, SwP.kMtV, SwP.mtAt_t, SwP.mtAt_f, SwP.kMtS_eq, SwP.ev_mt, SwP.ev_lc, SwP.ev_col, SwP.kCol, SwP.evs_nil, SwP.evs_cons, SwP.kEvs, SwP.kEvs2, SwP.evt_nil, SwP.evt_cons, SwP.kEvt, SwP.kEvt2, SwP.evo_nil, SwP.evo_c, SwP.evo_v, SwP.evo_op, SwP.evo_neg, SwP.evo_call, SwP.kBd, SwP.evi_range, SwP.evi_zip, SwP.evi_enum, SwP.evi_rev, SwP.evi_v, SwP.evi_c, SwP.evi_ix, SwP.evi_sl, SwP.evi_tup, SwP.evi_lst, SwP.evi_call, SwP.evi_op, SwP.evi_rv, SwP.evi_lc, SwP.evi_sorted, SwP.kSeqOf, SwP.kWalk, SwP.eva_nil, SwP.eva_v, SwP.eva_c, SwP.eva_op, SwP.eva_neg, SwP.eva_ix, SwP.eva_sl, SwP.eva_rv, SwP.eva_tup, SwP.eva_lst, SwP.eva_call, SwP.eva_bi, SwP.eva_lc, SwP.eva_col, SwP.eva_ite, SwP.eva_mt, SwP.kAg, SwP.kAg2, SwP.kAgD, SwP.kAgM, SwP.agM2_mu, SwP.agV_mu, SwP.agV_im, SwP.agV_fz, SwP.sx_skip, SwP.sx_seq, SwP.kSeq_nx, SwP.kSeq_rt, SwP.kSeq_bk, SwP.kSeq_ct, SwP.kPut, SwP.kGive, SwP.sx_asgN, SwP.sx_asgT, SwP.kSix, SwP.kSix2, SwP.sixAt_t, SwP.sx_six, SwP.kSwp, SwP.kSwp2, SwP.kSwp4, SwP.kSwp5, SwP.swpAt_t, SwP.sx_swp, SwP.augP_s, SwP.kAug2_int, SwP.kAug, SwP.sx_aug, SwP.kEx, SwP.sx_ex, SwP.kRet, SwP.sx_retv, SwP.sx_ite, SwP.kIte_t, SwP.kIte_f, SwP.sx_for, SwP.sx_wh, SwP.sx_brk, SwP.sx_cont, SwP.rt_c, SwP.rt_op, SwP.rt_cmp, SwP.rt_chain, SwP.rt_neg, SwP.rt_no, SwP.rt_an, SwP.rt_oo, SwP.rt_ite, SwP.rt_tup, SwP.rt_lst, SwP.rt_ix, SwP.rt_sl, SwP.rt_rv, SwP.rt_call, SwP.rt_bi, SwP.rt_mt, SwP.rt_lc, SwP.rt_col, SwP.fr_im, SwP.fr_un, SwP.fr_mu, SwP.canSet_zero, SwP.canSet_succ, SwP.put_eq, SwP.putIf_t, SwP.putF_s, SwP.setW_zero, SwP.setW_succ, SwP.ofT_im, SwP.ofT_nu, SwP.rdV_eq, SwP.rdW_im, SwP.rdW_fz, SwP.rdW_l, SwP.rdW_s, SwP.rdW_kf, SwP.rdW_kt, SwP.isMu_eq, SwP.isMuW_l, SwP.isMuW_pop, SwP.isMuW_ix, SwP.isMuW_lix, SwP.isMuW_add, SwP.isMuW_im, SwP.isMuW_fz, SwP.storeAt_im, SwP.storeW_0, SwP.storeW_1, SwP.aug_add, SwP.aug_sub, SwP.retV_m, SwP.retV_im, SwP.retV_mt, SwP.retV_fz, SwP.agsOk_nil, SwP.agsOk_n, SwP.agsOk_s, SwP.ws_nil, SwP.ws_cons, SwP.gb_nil, SwP.gb_n, SwP.gb_s, SwP.gbW_m, SwP.gbW_fT, SwP.gbW_fF, SwP.give_n, SwP.give_t, SwP.give_l, SwP.give_p, SwP.gives_nil, SwP.gives_cons, SwP.givesK_s, SwP.wipe_nil, SwP.wipe_cons, SwP.unw_nil, SwP.unw_cons, SwP.b_add, SwP.b_sub, SwP.b_mul, SwP.mulOk_l, SwP.mulOk_r, SwP.b_fdiv, SwP.b_mod, SwP.b_pow18, SwP.c_lt, SwP.c_le, SwP.c_gt, SwP.c_ge, SwP.c_eqI, SwP.c_neI, SwP.c_isN, SwP.c_isnN, SwP.t_bl, SwP.t_int, SwP.t_tup, SwP.t_lst, SwP.t_nu, SwP.t_non, SwP.d_im, SwP.d_nu, SwP.intOf_i, SwP.seq_t, SwP.seq_l, SwP.seq_n, SwP.ix_t, SwP.ix_l, SwP.ix_n, SwP.atIx_0, SwP.atIx_1, SwP.atIx_2, SwP.atIx_m1, SwP.sl_t, SwP.sl_l, SwP.sl_n, SwP.rv_t, SwP.rv_l, SwP.rv_n, SwP.int_b, SwP.int_i, SwP.len_t, SwP.len_l, SwP.len_n, SwP.tuple_t, SwP.tuple_l, SwP.tuple_n, SwP.list_t, SwP.list_l, SwP.list_n, SwP.max_i, SwP.min_i, SwP.isi_ii, SwP.isi_ib, SwP.isi_bb, SwP.isi_tt, SwP.w_range, SwP.w_zipT, SwP.w_zipL, SwP.w_enumT, SwP.w_enumL, SwP.w_revT, List.getElem?_cons_zero, List.getElem?_cons_succ, List.contains_nil, List.contains_cons, Bool.not_true, Bool.not_false, Bool.true_and, Bool.and_true, Bool.false_or, Bool.or_false, List.getD_cons_zero, List.getD_cons_succ, Option.map_some, Int.reduceNeg, Nat.reduceLT, Nat.reduceLeDiff, Int.reduceLT, Int.reduceLE, Int.reduceEq, Int.reduceAdd, Int.reduceSub, Int.reduceMul, Nat.reduceAdd, Nat.reduceBEq, Nat.reduceEqDiff, decide_true, decide_false, SwP.mkTup_eq, SwP.mkLst_eq, SwP.b_addT, SwP.b_addNN, SwP.b_addIN, SwP.b_addNI, SwP.mt_append, SwP.mt_popAt, SwP.mt_pop, SwP.col_t, SwP.col_l, List.length_cons, List.length_nil, SwP.nums_len, SwP.prs_len, SwP.upto_len, SL, SwP.range_1, SwP.sorted_prs, SwP.sorted_prsI, SwP.lcIf_nil, SwP.lcIf_no, SwP.lcIf_cmp, SwP.lcIf_chain, SwP.lcIf_an, SwP.lcIf_oo, SwP.lcIf_call, SwP.c_neNN, SwP.c_eqNN, SwP.cut_takeI, SwP.cut_dropI, SwP.cut_m1, Int.reduceToNat, eq_self, Int.neg_neg, Int.toNat_natCast, e1, hat, e2, e3, e4]
    exact mm
  · have mm := main great r2 hg0 hg (by omega)
    rw [c3] at e3
    simp -implicitDefEqProofs only [SwP.bnd_ok, SwP.bnd_bad, SwP.rof_some, SwP.ev_c, SwP.ev_v, SwP.kOp2, SwP.kOp, SwP.ev_op, SwP.kCmp2, SwP.kCmp, SwP.ev_cmp, SwP.cmpR_eq, SwP.mapB, SwP.mapD, SwP.mapO, SwP.kChain, SwP.kChain2, SwP.kChain3, SwP.kChain4, SwP.ev_chain, SwP.kNeg, SwP.ev_neg, SwP.tst_eq, SwP.kTru, SwP.kNo, SwP.ev_no, SwP.kAn, SwP.kAn2, SwP.ev_an, SwP.kOo, SwP.kOo2, SwP.ev_oo, SwP.kIfE, SwP.ev_ite, SwP.ev_tup, SwP.ev_lst, SwP.kIx, SwP.kIx2, SwP.ev_ix, SwP.kSl, SwP.kSl2, SwP.kSl3, SwP.ev_sl, SwP.kRv, SwP.ev_rv, SwP.kCall_eq, SwP.dcIf_t, SwP.dcAt_eq, SwP.dcBack_eq, SwP.ev_call, SwP.kBi, SwP.ev_len, SwP.ev_tuple, SwP.ev_list, SwP.ev_sorted, SwP.ev_sum, SwP.ev_repr, SwP.ev_isinst, SwP.ev_max, SwP.ev_min, SwP.ev_set, SwP.ev_int, SwP.kMtV2, SwP.kMtV, SwP.mtAt_t, SwP.mtAt_f, SwP.kMtS_eq, SwP.ev_mt, SwP.ev_lc, SwP.ev_col, SwP.kCol, SwP.evs_nil, SwP.evs_cons, SwP.kEvs, SwP.kEvs2, SwP.evt_nil, SwP.evt_cons, SwP.kEvt, SwP.kEvt2, SwP.evo_nil, SwP.evo_c, SwP.evo_v, SwP.evo_op, SwP.evo_neg, SwP.evo_call, SwP.kBd, SwP.evi_range, SwP.evi_zip, SwP.evi_enum, SwP.evi_rev, SwP.evi_v, SwP.evi_c, SwP.evi_ix, SwP.evi_sl, SwP.evi_tup, SwP.evi_lst, SwP.evi_call, SwP.evi_op, SwP.evi_rv, SwP.evi_lc, SwP.evi_sorted, SwP.kSeqOf, SwP.kWalk, SwP.eva_nil, SwP.eva_v, SwP.eva_c, SwP.eva_op, SwP.eva_neg, SwP.eva_ix, SwP.eva_sl, SwP.eva_rv, SwP.eva_tup, SwP.eva_lst, SwP.eva_call, SwP.eva_bi, SwP.eva_lc, SwP.eva_col, SwP.eva_ite, SwP.eva_mt, SwP.kAg, SwP.kAg2, SwP.kAgD, SwP.kAgM, SwP.agM2_mu, SwP.agV_mu, SwP.agV_im, SwP.agV_fz, SwP.sx_skip, SwP.sx_seq, SwP.kSeq_nx, SwP.kSeq_rt, SwP.kSeq_bk, SwP.kSeq_ct, SwP.kPut, SwP.kGive, SwP.sx_asgN, SwP.sx_asgT, SwP.kSix, SwP.kSix2, SwP.sixAt_t, SwP.sx_six, SwP.kSwp, SwP.kSwp2, SwP.kSwp4, SwP.kSwp5, SwP.swpAt_t, SwP.sx_swp, SwP.augP_s, SwP.kAug2_int, SwP.kAug, SwP.sx_aug, SwP.kEx, SwP.sx_ex, SwP.kRet, SwP.sx_retv, SwP.sx_ite, SwP.kIte_t, SwP.kIte_f, SwP.sx_for, SwP.sx_wh, SwP.sx_brk, SwP.sx_cont, SwP.rt_c, SwP.rt_op, SwP.rt_cmp, SwP.rt_chain, SwP.rt_neg, SwP.rt_no, SwP.rt_an, SwP.rt_oo, SwP.rt_ite, SwP.rt_tup, SwP.rt_lst, SwP.rt_ix, SwP.rt_sl, SwP.rt_rv, SwP.rt_call, SwP.rt_bi, SwP.rt_mt, SwP.rt_lc, SwP.rt_col, SwP.fr_im, SwP.fr_un, SwP.fr_mu, SwP.canSet_zero, SwP.canSet_succ, SwP.put_eq, SwP.putIf_t, SwP.putF_s, SwP.setW_zero, SwP.setW_succ, SwP.ofT_im, SwP.ofT_nu, SwP.rdV_eq, SwP.rdW_im, SwP.rdW_fz, SwP.rdW_l, SwP.rdW_s, SwP.rdW_kf, SwP.rdW_kt, SwP.isMu_eq, SwP.isMuW_l, SwP.isMuW_pop, SwP.isMuW_ix, SwP.isMuW_lix, SwP.isMuW_add, SwP.isMuW_im, SwP.isMuW_fz, SwP.storeAt_im, SwP.storeW_0, SwP.storeW_1, SwP.aug_add, SwP.aug_sub, SwP.retV_m, SwP.retV_im, SwP.retV_mt, SwP.retV_fz, SwP.agsOk_nil, SwP.agsOk_n, SwP.agsOk_s, SwP.ws_nil, SwP.ws_cons, SwP.gb_nil, SwP.gb_n, SwP.gb_s, SwP.gbW_m, SwP.gbW_fT, SwP.gbW_fF, SwP.give_n, SwP.give_t, SwP.give_l, SwP.give_p, SwP.gives_nil, SwP.gives_cons, SwP.givesK_s, SwP.wipe_nil, SwP.wipe_cons, SwP.unw_nil, SwP.unw_cons, SwP.b_add, SwP.b_sub, SwP.b_mul, SwP.mulOk_l, SwP.mulOk_r, SwP.b_fdiv, SwP.b_mod, SwP.b_pow18, SwP.c_lt, SwP.c_le, SwP.c_gt, SwP.c_ge, SwP.c_eqI, SwP.c_neI, SwP.c_isN, SwP.c_isnN, SwP.t_bl, SwP.t_int, SwP.t_tup, SwP.t_lst, SwP.t_nu, SwP.t_non, SwP.d_im, SwP.d_nu, SwP.intOf_i, SwP.seq_t, SwP.seq_l, SwP.seq_n, SwP.ix_t, SwP.ix_l, SwP.ix_n, SwP.atIx_0, SwP.atIx_1, SwP.atIx_2, SwP.atIx_m1, SwP.sl_t, SwP.sl_l, SwP.sl_n, SwP.rv_t, SwP.rv_l, SwP.rv_n, SwP.int_b, SwP.int_i, SwP.len_t, SwP.len_l, SwP.len_n, SwP.tuple_t, SwP.tuple_l, SwP.tuple_n, SwP.list_t, SwP.list_l, SwP.list_n, SwP.max_i, SwP.min_i, SwP.isi_ii, SwP.isi_ib, SwP.isi_bb, SwP.isi_tt, SwP.w_range, SwP.w_zipT, SwP.w_zipL, SwP.w_enumT, SwP.w_enumL, SwP.w_revT, List.getElem?_cons_zero, List.getElem?_cons_succ, List.contains_nil, List.contains_cons, Bool.not_true, Bool.not_false, Bool.true_and, Bool.and_true, Bool.false_or, Bool.or_false, List.getD_cons_zero, List.getD_cons_succ, Option.map_some, Int.reduceNeg, Nat.reduceLT, Nat.reduceLeDiff, Int.reduceLT, Int.reduceLE, Int.reduceEq, Int.reduceAdd, Int.reduceSub, Int.reduceMul, Nat.reduceAdd, Nat.reduceBEq, Nat.reduceEqDiff, decide_true, decide_false, SwP.mkTup_eq, SwP.mkLst_eq, SwP.b_addT, SwP.b_addNN, SwP.b_addIN, SwP.b_addNI, SwP.mt_append, SwP.mt_popAt, SwP.mt_pop, SwP.col_t, SwP.col_l, List.length_cons, List.length_nil, SwP.nums_len, SwP.prs_len, SwP.upto_len, SL, SwP.range_1, SwP.sorted_prs, SwP.sorted_prsI, SwP.lcIf_nil, SwP.lcIf_no, SwP.lcIf_cmp, SwP.lcIf_chain, SwP.lcIf_an, SwP.lcIf_oo, SwP.lcIf_call, SwP.c_neNN, SwP.c_eqNN, SwP.cut_takeI, SwP.cut_dropI, SwP.cut_m1, Int.reduceToNat, eq_self, Int.neg_neg, Int.toNat_natCast] at mm
    simp -implicitDefEqProofs only [SwP.bnd_ok, SwP.bnd_bad, SwP.rof_some, SwP.ev_c, SwP.ev_v, SwP.kOp2, SwP.kOp, SwP.ev_op, SwP.kCmp2, SwP.kCmp, SwP.ev_cmp, SwP.cmpR_eq, SwP.mapB, SwP.mapD, SwP.mapO, SwP.kChain, SwP.kChain2, SwP.kChain3, SwP.kChain4, SwP.ev_chain, SwP.kNeg, SwP.ev_neg, SwP.tst_eq, SwP.kTru, SwP.kNo, SwP.ev_no, SwP.kAn, SwP.kAn2, SwP.ev_an, SwP.kOo, SwP.kOo2, SwP.ev_oo, SwP.kIfE, SwP.ev_ite, SwP.ev_tup, SwP.ev_lst, SwP.kIx, SwP.kIx2, SwP.ev_ix, SwP.kSl, SwP.kSl2, SwP.kSl3, SwP.ev_sl, SwP.kRv, SwP.ev_rv, SwP.kCall_eq, SwP.dcIf_t, SwP.dcAt_eq, SwP.dcBack_eq, SwP.ev_call, SwP.kBi, SwP.ev_len, SwP.ev_tuple, SwP.ev_list, SwP.ev_sorted, SwP.ev_sum, SwP.ev_repr, SwP.ev_isinst, SwP.ev_max, SwP.ev_min, SwP.ev_set, SwP.ev_int, SwP.kMtV2, SwP.kMtV, SwP.mtAt_t, SwP.mtAt_f, SwP.kMtS_eq, SwP.ev_mt, SwP.ev_lc, SwP.ev_col, SwP.kCol, SwP.evs_nil, SwP.evs_cons, SwP.kEvs, SwP.kEvs2, SwP.evt_nil, SwP.evt_cons, SwP.kEvt, SwP.kEvt2, SwP.evo_nil, SwP.evo_c, SwP.evo_v, SwP.evo_op, SwP.evo_neg, SwP.evo_call, SwP.kBd, SwP.evi_range, SwP.evi_zip, SwP.evi_enum, SwP.evi_rev, SwP.evi_v, SwP.evi_c, SwP.evi_ix, SwP.evi_sl, SwP.evi_tup, SwP.evi_lst, SwP.evi_call, SwP.evi_op, SwP.evi_rv, SwP.evi_lc, SwP.evi_sorted, SwP.kSeqOf, SwP.kWalk, SwP.eva_nil, SwP.eva_v, SwP.eva_c, SwP.eva_op, SwP.eva_neg, SwP.eva_ix, SwP.eva_sl, SwP.eva_rv, SwP.eva_tup, SwP.eva_lst, SwP.eva_call, SwP.eva_bi, SwP.eva_lc, SwP.eva_col, SwP.eva_ite, SwP.eva_mt, SwP.kAg, SwP.kAg2, SwP.kAgD, SwP.kAgM, SwP.agM2_mu, SwP.agV_mu, SwP.agV_im, SwP.agV_fz, SwP.sx_skip, SwP.sx_seq, SwP.kSeq_nx, SwP.kSeq_rt, SwP.kSeq_bk, SwP.kSeq_ct, SwP.kPut, SwP.kGive, SwP.sx_asgN, SwP.sx_asgT, SwP.kSix, SwP.kSix2, SwP.sixAt_t, SwP.sx_six, SwP.kSwp, SwP.kSwp2, SwP.kSwp4, SwP.kSwp5, SwP.swpAt_t, SwP.sx_swp, SwP.augP_s, SwP.kAug2_int, SwP.kAug, SwP.sx_aug, SwP.kEx, SwP.sx_ex, SwP.kRet, SwP.sx_retv, SwP.sx_ite, SwP.kIte_t, SwP.kIte_f, SwP.sx_for, SwP.sx_wh, SwP.sx_brk, SwP.sx_cont, SwP.rt_c, SwP.rt_op, SwP.rt_cmp, SwP.rt_chain, SwP.rt_neg, SwP.rt_no, SwP.rt_an, SwP.rt_oo, SwP.rt_ite, SwP.rt_tup, SwP.rt_lst, SwP.rt_ix, SwP.rt_sl, SwP.rt_rv, SwP.rt_call, SwP.rt_bi, SwP.rt_mt, SwP.rt_lc, SwP.rt_col, SwP.fr_im, SwP.fr_un, SwP.fr_mu, SwP.canSet_zero, SwP.canSet_succ, SwP.put_eq, SwP.putIf_t, SwP.putF_s, SwP.setW_zero, SwP.setW_succ, SwP.ofT_im, SwP.ofT_nu, SwP.rdV_eq, SwP.rdW_im, SwP.rdW_fz, SwP.rdW_l, SwP.rdW_s, SwP.rdW_kf, SwP.rdW_kt, SwP.isMu_eq, SwP.isMuW_l, SwP.isMuW_pop, SwP.isMuW_ix, SwP.isMuW_lix, SwP.isMuW_add, SwP.isMuW_im, SwP.isMuW_fz, SwP.storeAt_im, SwP.storeW_0, SwP.storeW_1, SwP.aug_add, SwP.aug_sub, SwP.retV_m, SwP.retV_im, SwP.retV_mt, SwP.retV_fz, SwP.agsOk_nil, SwP.agsOk_n, SwP.agsOk_s, SwP.ws_nil, SwP.ws_cons, SwP.gb_nil, SwP.gb_n, SwP.gb_s, SwP.gbW_m, SwP.gbW_fT, SwP.gbW_fF, SwP.give_n, SwP.give_t, SwP.give_l, SwP.give_p, SwP.gives_nil, SwP.gives_cons, SwP.givesK_s, SwP.wipe_nil, SwP.wipe_cons, SwP.unw_nil, SwP.unw_cons, SwP.b_add, SwP.b_sub, SwP.b_mul, SwP.mulOk_l, SwP.mulOk_r, SwP.b_fdiv, SwP.b_mod, SwP.b_pow18, SwP.c_lt, SwP.c_le, SwP.c_gt, SwP.c_ge, SwP.c_eqI, SwP.c_neI, SwP.c_isN, SwP.c_isnN, SwP.t_bl, SwP.t_int, SwP.t_tup, SwP.t_lst, SwP.t_nu, SwP.t_non, SwP.d_im, SwP.d_nu, SwP.intOf_i, SwP.seq_t, SwP.seq_l, SwP.seq_n, SwP.ix_t, SwP.ix_l, SwP.ix_n, SwP.atIx_0, SwP.atIx_1, SwP.atIx_2, SwP.atIx_m1, SwP.sl_t, SwP.sl_l, SwP.sl_n, SwP.rv_t, SwP.rv_l, SwP.rv_n, SwP.int_b, SwP.int_i, SwP.len_t, SwP.len_l, SwP.len_n, SwP.tuple_t, SwP.tuple_l, SwP.tuple_n, SwP.list_t, SwP.list_l, SwP.list_n, SwP.max_i, SwP.min_i, SwP.isi_ii, SwP.isi_ib, SwP.isi_bb, SwP.isi_tt, SwP.w_range, SwP.w_zipT, SwP.w_zipL, SwP.w_enumT, SwP.w_enumL, SwP.w_revT, List.getElem?_cons_zero, List.getElem?_cons_succ, List.contains_nil, List.contains_cons, Bool.not_true, Bool.not_false, Bool.true_and, Bool.and_true, Bool.false_or, Bool.or_false, List.getD_cons_zero, List.getD_cons_succ, Option.map_some, Int.reduceNeg, Nat.reduceLT, Nat.reduceLeDiff, Int.reduceLT, Int.reduceLE, Int.reduceEq, Int.reduceAdd, Int.reduceSub, Int.reduceMul, Nat.reduceAdd, Nat.reduceBEq, Nat.reduceEqDiff, decide_true, decide_false, SwP.mkTup_eq, SwP.mkLst_eq, SwP.b_addT, SwP.b_addNN, SwP.b_addIN, SwP.b_addNI, SwP.mt_append, SwP.mt_popAt, SwP.mt_pop, SwP.col_t, SwP.col_l, List.length_cons, List.length_nil, SwP.nums_len, SwP.prs_len, SwP.upto_len, SL, SwP.range_1, SwP.sorted_prs, SwP.sorted_prsI, SwP.lcIf_nil, SwP.lcIf_no, SwP.lcIf_cmp, SwP.lcIf_chain, SwP.lcIf_an, SwP.lcIf_oo, SwP.lcIf_call, SwP.c_neNN, SwP.c_eqNN, SwP.cut_takeI, SwP.cut_dropI, SwP.cut_m1, Int.reduceToNat, eq_self, Int.neg_neg, Int.toNat_natCast, e1, hat, e2, e3, e4, c4]
    exact mm
  · have mm := main m0 long hm0 (by omega) hlo
    rw [c4] at e4
    simp -implicitDefEqProofs only [SwP.bnd_ok, SwP.bnd_bad, SwP.rof_some, SwP.ev_c, SwP.ev_v, SwP.kOp2, SwP.kOp, SwP.ev_op, SwP.kCmp2, SwP.kCmp, SwP.ev_cmp, SwP.cmpR_eq, SwP.mapB, SwP.mapD, SwP.mapO, SwP.kChain, SwP.kChain2, SwP.kChain3, SwP.kChain4, SwP.ev_chain, SwP.kNeg, SwP.ev_neg, SwP.tst_eq, SwP.kTru, SwP.kNo, SwP.ev_no, SwP.kAn, SwP.kAn2, SwP.ev_an, SwP.kOo, SwP.kOo2, SwP.ev_oo, SwP.kIfE, SwP.ev_ite, SwP.ev_tup, SwP.ev_lst, SwP.kIx, SwP.kIx2, SwP.ev_ix, SwP.kSl, SwP.kSl2, SwP.kSl3, SwP.ev_sl, SwP.kRv, SwP.ev_rv, SwP.kCall_eq, SwP.dcIf_t, SwP.dcAt_eq, SwP.dcBack_eq, SwP.ev_call, SwP.kBi, SwP.ev_len, SwP.ev_tuple, SwP.ev_list, SwP.ev_sorted, SwP.ev_sum, SwP.ev_repr, SwP.ev_isinst, SwP.ev_max, SwP.ev_min, SwP.ev_set, SwP.ev_int, SwP.kMtV2, SwP.kMtV, SwP.mtAt_t, SwP.mtAt_f, SwP.kMtS_eq, SwP.ev_mt, SwP.ev_lc, SwP.ev_col, SwP.kCol, SwP.evs_nil, SwP.evs_cons, SwP.kEvs, SwP.kEvs2, SwP.evt_nil, SwP.evt_cons, SwP.kEvt, SwP.kEvt2, SwP.evo_nil, SwP.evo_c, SwP.evo_v, SwP.evo_op, SwP.evo_neg, SwP.evo_call, SwP.kBd, SwP.evi_range, SwP.evi_zip, SwP.evi_enum, SwP.evi_rev, SwP.evi_v, SwP.evi_c, SwP.evi_ix, SwP.evi_sl, SwP.evi_tup, SwP.evi_lst, SwP.evi_call, SwP.evi_op, SwP.evi_rv, SwP.evi_lc, SwP.evi_sorted, SwP.kSeqOf, SwP.kWalk, SwP.eva_nil, SwP.eva_v, SwP.eva_c, SwP.eva_op, SwP.eva_neg, SwP.eva_ix, SwP.eva_sl, SwP.eva_rv, SwP.eva_tup, SwP.eva_lst, SwP.eva_call, SwP.eva_bi, SwP.eva_lc, SwP.eva_col, SwP.eva_ite, SwP.eva_mt, SwP.kAg, SwP.kAg2, SwP.kAgD, SwP.kAgM, SwP.agM2_mu, SwP.agV_mu, SwP.agV_im, SwP.agV_fz, SwP.sx_skip, SwP.sx_seq, SwP.kSeq_nx, SwP.kSeq_rt, SwP.kSeq_bk, SwP.kSeq_ct, SwP.kPut, SwP.kGive, SwP.sx_asgN, SwP.sx_asgT, SwP.kSix, SwP.kSix2, SwP.sixAt_t, SwP.sx_six, SwP.kSwp, SwP.kSwp2, SwP.kSwp4, SwP.kSwp5, SwP.swpAt_t, SwP.sx_swp, SwP.augP_s, SwP.kAug2_int, SwP.kAug, SwP.sx_aug, SwP.kEx, SwP.sx_ex, SwP.kRet, SwP.sx_retv, SwP.sx_ite, SwP.kIte_t, SwP.kIte_f, SwP.sx_for, SwP.sx_wh, SwP.sx_brk, SwP.sx_cont, SwP.rt_c, SwP.rt_op, SwP.rt_cmp, SwP.rt_chain, SwP.rt_neg, SwP.rt_no, SwP.rt_an, SwP.rt_oo, SwP.rt_ite, SwP.rt_tup, SwP.rt_lst, SwP.rt_ix, SwP.rt_sl, SwP.rt_rv, SwP.rt_call, SwP.rt_bi, SwP.rt_mt, SwP.rt_lc, SwP.rt_col, SwP.fr_im, SwP.fr_un, SwP.fr_mu, SwP.canSet_zero, SwP.canSet_succ, SwP.put_eq, SwP.putIf_t, SwP.putF_s, SwP.setW_zero, SwP.setW_succ, SwP.ofT_im, SwP.ofT_nu, SwP.rdV_eq, SwP.rdW_im, SwP.rdW_fz, SwP.rdW_l, SwP.rdW_s, SwP.rdW_kf, SwP.rdW_kt, SwP.isMu_eq, SwP.isMuW_l, SwP.isMuW_pop, SwP.isMuW_ix, SwP.isMuW_lix, SwP.isMuW_add, SwP.isMuW_im, SwP.isMuW_fz, SwP.storeAt_im, SwP.storeW_0, SwP.storeW_1, SwP.aug_add, SwP.aug_sub, SwP.retV_m, SwP.retV_im, SwP.retV_mt, SwP.retV_fz, SwP.agsOk_nil, SwP.agsOk_n, SwP.agsOk_s, SwP.ws_nil, SwP.ws_cons, SwP.gb_nil, SwP.gb_n, SwP.gb_s, SwP.gbW_m, SwP.gbW_fT, SwP.gbW_fF, SwP.give_n, SwP.give_t, SwP.give_l, SwP.give_p, SwP.gives_nil, SwP.gives_cons, SwP.givesK_s, SwP.wipe_nil, SwP.wipe_cons, SwP.unw_nil, SwP.unw_cons, SwP.b_add, SwP.b_sub, SwP.b_mul, SwP.mulOk_l, SwP.mulOk_r, SwP.b_fdiv, SwP.b_mod, SwP.b_pow18, SwP.c_lt, SwP.c_le, SwP.c_gt, SwP.c_ge, SwP.c_eqI, SwP.c_neI, SwP.c_isN, SwP.c_isnN, SwP.t_bl, SwP.t_int, SwP.t_tup, SwP.t_lst, SwP.t_nu, SwP.t_non, SwP.d_im, SwP.d_nu, SwP.intOf_i, SwP.seq_t, SwP.seq_l, SwP.seq_n, SwP.ix_t, SwP.ix_l, SwP.ix_n, SwP.atIx_0, SwP.atIx_1, SwP.atIx_2, SwP.atIx_m1, SwP.sl_t, SwP.sl_l, SwP.sl_n, SwP.rv_t, SwP.rv_l, SwP.rv_n, SwP.int_b, SwP.int_i, SwP.len_t, SwP.len_l, SwP.len_n, SwP.tuple_t, SwP.tuple_l, SwP.tuple_n, SwP.list_t, SwP.list_l, SwP.list_n, SwP.max_i, SwP.min_i, SwP.isi_ii, SwP.isi_ib, SwP.isi_bb, SwP.isi_tt, SwP.w_range, SwP.w_zipT, SwP.w_zipL, SwP.w_enumT, SwP.w_enumL, SwP.w_revT, List.getElem?_cons_zero, List.getElem?_cons_succ, List.contains_nil, List.contains_cons, Bool.not_true, Bool.not_false, Bool.true_and, Bool.and_true, Bool.false_or, Bool.or_false, List.getD_cons_zero, List.getD_cons_succ, Option.map_some, Int.reduceNeg, Nat.reduceLT, Nat.reduceLeDiff, Int.reduceLT, Int.reduceLE, Int.reduceEq, Int.reduceAdd, Int.reduceSub, Int.reduceMul, Nat.reduceAdd, Nat.reduceBEq, Nat.reduceEqDiff, decide_true, decide_false, SwP.mkTup_eq, SwP.mkLst_eq, SwP.b_addT, SwP.b_addNN, SwP.b_addIN, SwP.b_addNI, SwP.mt_append, SwP.mt_popAt, SwP.mt_pop, SwP.col_t, SwP.col_l, List.length_cons, List.length_nil, SwP.nums_len, SwP.prs_len, SwP.upto_len, SL, SwP.range_1, SwP.sorted_prs, SwP.sorted_prsI, SwP.lcIf_nil, SwP.lcIf_no, SwP.lcIf_cmp, SwP.lcIf_chain, SwP.lcIf_an, SwP.lcIf_oo, SwP.lcIf_call, SwP.c_neNN, SwP.c_eqNN, SwP.cut_takeI, SwP.cut_dropI, SwP.cut_m1, Int.reduceToNat, eq_self, Int.neg_neg, Int.toNat_natCast] at mm
    simp -implicitDefEqProofs only [SwP.bnd_ok, SwP.bnd_bad, SwP.rof_some, SwP.ev_c, SwP.ev_v, SwP.kOp2, SwP.kOp, SwP.ev_op, SwP.kCmp2, SwP.kCmp, SwP.ev_cmp, SwP.cmpR_eq, SwP.mapB, SwP.mapD, SwP.mapO, SwP.kChain, SwP.kChain2, SwP.kChain3, SwP.kChain4, SwP.ev_chain, SwP.kNeg, SwP.ev_neg, SwP.tst_eq, SwP.kTru, SwP.kNo, SwP.ev_no, SwP.kAn, SwP.kAn2, SwP.ev_an, SwP.kOo, SwP.kOo2, SwP.ev_oo, SwP.kIfE, SwP.ev_ite, SwP.ev_tup, SwP.ev_lst, SwP.kIx, SwP.kIx2, SwP.ev_ix, SwP.kSl, SwP.kSl2, SwP.kSl3, SwP.ev_sl, SwP.kRv, SwP.ev_rv, SwP.kCall_eq, SwP.dcIf_t, SwP.dcAt_eq, SwP.dcBack_eq, SwP.ev_call, SwP.kBi, SwP.ev_len, SwP.ev_tuple, SwP.ev_list, SwP.ev_sorted, SwP.ev_sum, SwP.ev_repr, SwP.ev_isinst, SwP.ev_max, SwP.ev_min, SwP.ev_set, SwP.ev_int, SwP.kMtV2, SwP.kMtV, SwP.mtAt_t, SwP.mtAt_f, SwP.kMtS_eq, SwP.ev_mt, SwP.ev_lc, SwP.ev_col, SwP.kCol, SwP.evs_nil, SwP.evs_cons, SwP.kEvs, SwP.kEvs2, SwP.evt_nil, SwP.evt_cons, SwP.kEvt, SwP.kEvt2, SwP.evo_nil, SwP.evo_c, SwP.evo_v, SwP.evo_op, SwP.evo_neg, SwP.evo_call, SwP.kBd, SwP.evi_range, SwP.evi_zip, SwP.evi_enum, SwP.evi_rev, SwP.evi_v, SwP.evi_c, SwP.evi_ix, SwP.evi_sl, SwP.evi_tup, SwP.evi_lst, SwP.evi_call, SwP.evi_op, SwP.evi_rv, SwP.evi_lc, SwP.evi_sorted, SwP.kSeqOf, SwP.kWalk, SwP.eva_nil, SwP.eva_v, SwP.eva_c, SwP.eva_op, SwP.eva_neg, SwP.eva_ix, SwP.eva_sl, SwP.eva_rv, SwP.eva_tup, SwP.eva_lst, SwP.eva_call, SwP.eva_bi, SwP.eva_lc, SwP.eva_col, SwP.eva_ite, SwP.eva_mt, SwP.kAg, SwP.kAg2, SwP.kAgD, SwP.kAgM, SwP.agM2_mu, SwP.agV_mu, SwP.agV_im, SwP.agV_fz, SwP.sx_skip, SwP.sx_seq, SwP.kSeq_nx, SwP.kSeq_rt, SwP.kSeq_bk, SwP.kSeq_ct, SwP.kPut, SwP.kGive, SwP.sx_asgN, SwP.sx_asgT, SwP.kSix, SwP.kSix2, SwP.sixAt_t, SwP.sx_six, SwP.kSwp, SwP.kSwp2, SwP.kSwp4, SwP.kSwp5, SwP.swpAt_t, SwP.sx_swp, SwP.augP_s, SwP.kAug2_int, SwP.kAug, SwP.sx_aug, SwP.kEx, SwP.sx_ex, SwP.kRet, SwP.sx_retv, SwP.sx_ite, SwP.kIte_t, SwP.kIte_f, SwP.sx_for, SwP.sx_wh, SwP.sx_brk, SwP.sx_cont, SwP.rt_c, SwP.rt_op, SwP.rt_cmp, SwP.rt_chain, SwP.rt_neg, SwP.rt_no, SwP.rt_an, SwP.rt_oo, SwP.rt_ite, SwP.rt_tup, SwP.rt_lst, SwP.rt_ix, SwP.rt_sl, SwP.rt_rv, SwP.rt_call, SwP.rt_bi, SwP.rt_mt, SwP.rt_lc, SwP.rt_col, SwP.fr_im, SwP.fr_un, SwP.fr_mu, SwP.canSet_zero, SwP.canSet_succ, SwP.put_eq, SwP.putIf_t, SwP.putF_s, SwP.setW_zero, SwP.setW_succ, SwP.ofT_im, SwP.ofT_nu, SwP.rdV_eq, SwP.rdW_im, SwP.rdW_fz, SwP.rdW_l, SwP.rdW_s, SwP.rdW_kf, SwP.rdW_kt, SwP.isMu_eq, SwP.isMuW_l, SwP.isMuW_pop, SwP.isMuW_ix, SwP.isMuW_lix, SwP.isMuW_add, SwP.isMuW_im, SwP.isMuW_fz, SwP.storeAt_im, SwP.storeW_0, SwP.storeW_1, SwP.aug_add, SwP.aug_sub, SwP.retV_m, SwP.retV_im, SwP.retV_mt, SwP.retV_fz, SwP.agsOk_nil, SwP.agsOk_n, SwP.agsOk_s, SwP.ws_nil, SwP.ws_cons, SwP.gb_nil, SwP.gb_n, SwP.gb_s, SwP.gbW_m, SwP.gbW_fT, SwP.gbW_fF, SwP.give_n, SwP.give_t, SwP.give_l, SwP.give_p, SwP.gives_nil, SwP.gives_cons, SwP.givesK_s, SwP.wipe_nil, SwP.wipe_cons, SwP.unw_nil, SwP.unw_cons, SwP.b_add, SwP.b_sub, SwP.b_mul, SwP.mulOk_l, SwP.mulOk_r, SwP.b_fdiv, SwP.b_mod, SwP.b_pow18, SwP.c_lt, SwP.c_le, SwP.c_gt, SwP.c_ge, SwP.c_eqI, SwP.c_neI, SwP.c_isN, SwP.c_isnN, SwP.t_bl, SwP.t_int, SwP.t_tup, SwP.t_lst, SwP.t_nu, SwP.t_non, SwP.d_im, SwP.d_nu, SwP.intOf_i, SwP.seq_t, SwP.seq_l, SwP.seq_n, SwP.ix_t, SwP.ix_l, SwP.ix_n, SwP.atIx_0, SwP.atIx_1, SwP.atIx_2, SwP.atIx_m1, SwP.sl_t, SwP.sl_l, SwP.sl_n, SwP.rv_t, SwP.rv_l, SwP.rv_n, SwP.int_b, SwP.int_i, SwP.len_t, SwP.len_l, SwP.len_n, SwP.tuple_t, SwP.tuple_l, SwP.tuple_n, SwP.list_t, SwP.list_l, SwP.list_n, SwP.max_i, SwP.min_i, SwP.isi_ii, SwP.isi_ib, SwP.isi_bb, SwP.isi_tt, SwP.w_range, SwP.w_zipT, SwP.w_zipL, SwP.w_enumT, SwP.w_enumL, SwP.w_revT, List.getElem?_cons_zero, List.getElem?_cons_succ, List.contains_nil, List.contains_cons, Bool.not_true, Bool.not_false, Bool.true_and, Bool.and_true, Bool.false_or, Bool.or_false, List.getD_cons_zero, List.getD_cons_succ, Option.map_some, Int.reduceNeg, Nat.reduceLT, Nat.reduceLeDiff, Int.reduceLT, Int.reduceLE, Int.reduceEq, Int.reduceAdd, Int.reduceSub, Int.reduceMul, Nat.reduceAdd, Nat.reduceBEq, Nat.reduceEqDiff, decide_true, decide_false, SwP.mkTup_eq, SwP.mkLst_eq, SwP.b_addT, SwP.b_addNN, SwP.b_addIN, SwP.b_addNI, SwP.mt_append, SwP.mt_popAt, SwP.mt_pop, SwP.col_t, SwP.col_l, List.length_cons, List.length_nil, SwP.nums_len, SwP.prs_len, SwP.upto_len, SL, SwP.range_1, SwP.sorted_prs, SwP.sorted_prsI, SwP.lcIf_nil, SwP.lcIf_no, SwP.lcIf_cmp, SwP.lcIf_chain, SwP.lcIf_an, SwP.lcIf_oo, SwP.lcIf_call, SwP.c_neNN, SwP.c_eqNN, SwP.cut_takeI, SwP.cut_dropI, SwP.cut_m1, Int.reduceToNat, eq_self, Int.neg_neg, Int.toNat_natCast, e1, hat, e2, e3, e4, c3]
    exact mm
  · have mm := main m0 r2 hm0 (by omega) (by omega)
    simp -implicitDefEqProofs only [SwP.bnd_ok, SwP.bnd_bad, SwP.rof_some, SwP.ev_c, SwP.ev_v, SwP.kOp2, SwP.kOp, SwP.ev_op, SwP.kCmp2, SwP.kCmp, SwP.ev_cmp, SwP.cmpR_eq, SwP.mapB, SwP.mapD, SwP.mapO, SwP.kChain, SwP.kChain2, SwP.kChain3, SwP.kChain4, SwP.ev_chain, SwP.kNeg, SwP.ev_neg, SwP.tst_eq, SwP.kTru, SwP.kNo, SwP.ev_no, SwP.kAn, SwP.kAn2, SwP.ev_an, SwP.kOo, SwP.kOo2, SwP.ev_oo, SwP.kIfE, SwP.ev_ite, SwP.ev_tup, SwP.ev_lst, SwP.kIx, SwP.kIx2, SwP.ev_ix, SwP.kSl, SwP.kSl2, SwP.kSl3, SwP.ev_sl, SwP.kRv, SwP.ev_rv, SwP.kCall_eq, SwP.dcIf_t, SwP.dcAt_eq, SwP.dcBack_eq, SwP.ev_call, SwP.kBi, SwP.ev_len, SwP.ev_tuple, SwP.ev_list, SwP.ev_sorted, SwP.ev_sum, SwP.ev_repr, SwP.ev_isinst, SwP.ev_max, SwP.ev_min, SwP.ev_set, SwP.ev_int, SwP.kMtV2, SwP.kMtV, SwP.mtAt_t, SwP.mtAt_f, SwP.kMtS_eq, SwP.ev_mt, SwP.ev_lc, SwP.ev_col, SwP.kCol, SwP.evs_nil, SwP.evs_cons, SwP.kEvs, SwP.kEvs2, SwP.evt_nil, SwP.evt_cons, SwP.kEvt, SwP.kEvt2, SwP.evo_nil, SwP.evo_c, SwP.evo_v, SwP.evo_op, SwP.evo_neg, SwP.evo_call, SwP.kBd, SwP.evi_range, SwP.evi_zip, SwP.evi_enum, SwP.evi_rev, SwP.evi_v, SwP.evi_c, SwP.evi_ix, SwP.evi_sl, SwP.evi_tup, SwP.evi_lst, SwP.evi_call, SwP.evi_op, SwP.evi_rv, SwP.evi_lc, SwP.evi_sorted, SwP.kSeqOf, SwP.kWalk, SwP.eva_nil, SwP.eva_v, SwP.eva_c, SwP.eva_op, SwP.eva_neg, SwP.eva_ix, SwP.eva_sl, SwP.eva_rv, SwP.eva_tup, SwP.eva_lst, SwP.eva_call, SwP.eva_bi, SwP.eva_lc, SwP.eva_col, SwP.eva_ite, SwP.eva_mt, SwP.kAg, SwP.kAg2, SwP.kAgD, SwP.kAgM, SwP.agM2_mu, SwP.agV_mu, SwP.agV_im, SwP.agV_fz, SwP.sx_skip, SwP.sx_seq, SwP.kSeq_nx, SwP.kSeq_rt, SwP.kSeq_bk, SwP.kSeq_ct, SwP.kPut, SwP.kGive, SwP.sx_asgN, SwP.sx_asgT, SwP.kSix, SwP.kSix2, SwP.sixAt_t, SwP.sx_six, SwP.kSwp, SwP.kSwp2, SwP.kSwp4, SwP.kSwp5, SwP.swpAt_t, SwP.sx_swp, SwP.augP_s, SwP.kAug2_int, SwP.kAug, SwP.sx_aug, SwP.kEx, SwP.sx_ex, SwP.kRet, SwP.sx_retv, SwP.sx_ite, SwP.kIte_t, SwP.kIte_f, SwP.sx_for, SwP.sx_wh, SwP.sx_brk, SwP.sx_cont, SwP.rt_c, SwP.rt_op, SwP.rt_cmp, SwP.rt_chain, SwP.rt_neg, SwP.rt_no, SwP.rt_an, SwP.rt_oo, SwP.rt_ite, SwP.rt_tup, SwP.rt_lst, SwP.rt_ix, SwP.rt_sl, SwP.rt_rv, SwP.rt_call, SwP.rt_bi, SwP.rt_mt, SwP.rt_lc, SwP.rt_col, SwP.fr_im, SwP.fr_un, SwP.fr_mu, SwP.canSet_zero, SwP.canSet_succ, SwP.put_eq, SwP.putIf_t, SwP.putF_s, SwP.setW_zero, SwP.setW_succ, SwP.ofT_im, SwP.ofT_nu, SwP.rdV_eq, SwP.rdW_im, SwP.rdW_fz, SwP.rdW_l, SwP.rdW_s, SwP.rdW_kf, SwP.rdW_kt, SwP.isMu_eq, SwP.isMuW_l, SwP.isMuW_pop, SwP.isMuW_ix, SwP.isMuW_lix, SwP.isMuW_add, SwP.isMuW_im, SwP.isMuW_fz, SwP.storeAt_im, SwP.storeW_0, SwP.storeW_1, SwP.aug_add, SwP.aug_sub, SwP.retV_m, SwP.retV_im, SwP.retV_mt, SwP.retV_fz, SwP.agsOk_nil, SwP.agsOk_n, SwP.agsOk_s, SwP.ws_nil, SwP.ws_cons, SwP.gb_nil, SwP.gb_n, SwP.gb_s, SwP.gbW_m, SwP.gbW_fT, SwP.gbW_fF, SwP.give_n, SwP.give_t, SwP.give_l, SwP.give_p, SwP.gives_nil, SwP.gives_cons, SwP.givesK_s, SwP.wipe_nil, SwP.wipe_cons, SwP.unw_nil, SwP.unw_cons, SwP.b_add, SwP.b_sub, SwP.b_mul, SwP.mulOk_l, SwP.mulOk_r, SwP.b_fdiv, SwP.b_mod, SwP.b_pow18, SwP.c_lt, SwP.c_le, SwP.c_gt, SwP.c_ge, SwP.c_eqI, SwP.c_neI, SwP.c_isN, SwP.c_isnN, SwP.t_bl, SwP.t_int, SwP.t_tup, SwP.t_lst, SwP.t_nu, SwP.t_non, SwP.d_im, SwP.d_nu, SwP.intOf_i, SwP.seq_t, SwP.seq_l, SwP.seq_n, SwP.ix_t, SwP.ix_l, SwP.ix_n, SwP.atIx_0, SwP.atIx_1, SwP.atIx_2, SwP.atIx_m1, SwP.sl_t, SwP.sl_l, SwP.sl_n, SwP.rv_t, SwP.rv_l, SwP.rv_n, SwP.int_b, SwP.int_i, SwP.len_t, SwP.len_l, SwP.len_n, SwP.tuple_t, SwP.tuple_l, SwP.tuple_n, SwP.list_t, SwP.list_l, SwP.list_n, SwP.max_i, SwP.min_i, SwP.isi_ii, SwP.isi_ib, SwP.isi_bb, SwP.isi_tt, SwP.w_range, SwP.w_zipT, SwP.w_zipL, SwP.w_enumT, SwP.w_enumL, SwP.w_revT, List.getElem?_cons_zero, List.getElem?_cons_succ, List.contains_nil, List.contains_cons, Bool.not_true, Bool.not_false, Bool.true_and, Bool.and_true, Bool.false_or, Bool.or_false, List.getD_cons_zero, List.getD_cons_succ, Option.map_some, Int.reduceNeg, Nat.reduceLT, Nat.reduceLeDiff, Int.reduceLT, Int.reduceLE, Int.reduceEq, Int.reduceAdd, Int.reduceSub, Int.reduceMul, Nat.reduceAdd, Nat.reduceBEq, Nat.reduceEqDiff, decide_true, decide_false, SwP.mkTup_eq, SwP.mkLst_eq, SwP.b_addT, SwP.b_addNN, SwP.b_addIN, SwP.b_addNI, SwP.mt_append, SwP.mt_popAt, SwP.mt_pop, SwP.col_t, SwP.col_l, List.length_cons, List.length_nil, SwP.nums_len, SwP.prs_len, SwP.upto_len, SL, SwP.range_1, SwP.sorted_prs, SwP.sorted_prsI, SwP.lcIf_nil, SwP.lcIf_no, SwP.lcIf_cmp, SwP.lcIf_chain, SwP.lcIf_an, SwP.lcIf_oo, SwP.lcIf_call, SwP.c_neNN, SwP.c_eqNN, SwP.cut_takeI, SwP.cut_dropI, SwP.cut_m1, Int.reduceToNat, eq_self, Int.neg_neg, Int.toNat_natCast] at mm
    simp -implicitDefEqProofs only [SwP.bnd_ok, SwP.bnd_bad, SwP.rof_some, SwP.ev_c, SwP.ev_v, SwP.kOp2, SwP.kOp, SwP.ev_op, SwP.kCmp2, SwP.kCmp, SwP.ev_cmp, SwP.cmpR_eq, SwP.mapB, SwP.mapD, SwP.mapO, SwP.kChain, SwP.kChain2, SwP.kChain3, SwP.kChain4, SwP.ev_chain, SwP.kNeg, SwP.ev_neg, SwP.tst_eq, SwP.kTru, SwP.kNo, SwP.ev_no, SwP.kAn, SwP.kAn2, SwP.ev_an, SwP.kOo, SwP.kOo2, SwP.ev_oo, SwP.kIfE, SwP.ev_ite, SwP.ev_tup, SwP.ev_lst, SwP.kIx, SwP.kIx2, SwP.ev_ix, SwP.kSl, SwP.kSl2, SwP.kSl3, SwP.ev_sl, SwP.kRv, SwP.ev_rv, SwP.kCall_eq, SwP.dcIf_t, SwP.dcAt_eq, SwP.dcBack_eq, SwP.ev_call, SwP.kBi, SwP.ev_len, SwP.ev_tuple, SwP.ev_list, SwP.ev_sorted, SwP.ev_sum, SwP.ev_repr, SwP.ev_isinst, SwP.ev_max, SwP.ev_min, SwP.ev_set, SwP.ev_int, SwP.kMtV2, SwP.kMtV, SwP.mtAt_t, SwP.mtAt_f, SwP.kMtS_eq, SwP.ev_mt, SwP.ev_lc, SwP.ev_col, SwP.kCol, SwP.evs_nil, SwP.evs_cons, SwP.kEvs, SwP.kEvs2, SwP.evt_nil, SwP.evt_cons, SwP.kEvt, SwP.kEvt2, SwP.evo_nil, SwP.evo_c, SwP.evo_v, SwP.evo_op, SwP.evo_neg, SwP.evo_call, SwP.kBd, SwP.evi_range, SwP.evi_zip, SwP.evi_enum, SwP.evi_rev, SwP.evi_v, SwP.evi_c, SwP.evi_ix, SwP.evi_sl, SwP.evi_tup, SwP.evi_lst, SwP.evi_call, SwP.evi_op, SwP.evi_rv, SwP.evi_lc, SwP.evi_sorted, SwP.kSeqOf, SwP.kWalk, SwP.eva_nil, SwP.eva_v, SwP.eva_c, SwP.eva_op, SwP.eva_neg, SwP.eva_ix, SwP.eva_sl, SwP.eva_rv, SwP.eva_tup, SwP.eva_lst, SwP.eva_call, SwP.eva_bi, SwP.eva_lc, SwP.eva_col, SwP.eva_ite, SwP.eva_mt, SwP.kAg, SwP.kAg2, SwP.kAgD, SwP.kAgM, SwP.agM2_mu, SwP.agV_mu, SwP.agV_im, SwP.agV_fz, SwP.sx_skip, SwP.sx_seq, SwP.kSeq_nx, SwP.kSeq_rt, SwP.kSeq_bk, SwP.kSeq_ct, SwP.kPut, SwP.kGive, SwP.sx_asgN, SwP.sx_asgT, SwP.kSix, SwP.kSix2, SwP.sixAt_t, SwP.sx_six, SwP.kSwp, SwP.kSwp2, SwP.kSwp4, SwP.kSwp5, SwP.swpAt_t, SwP.sx_swp, SwP.augP_s, SwP.kAug2_int, SwP.kAug, SwP.sx_aug, SwP.kEx, SwP.sx_ex, SwP.kRet, SwP.sx_retv, SwP.sx_ite, SwP.kIte_t, SwP.kIte_f, SwP.sx_for, SwP.sx_wh, SwP.sx_brk, SwP.sx_cont, SwP.rt_c, SwP.rt_op, SwP.rt_cmp, SwP.rt_chain, SwP.rt_neg, SwP.rt_no, SwP.rt_an, SwP.rt_oo, SwP.rt_ite, SwP.rt_tup, SwP.rt_lst, SwP.rt_ix, SwP.rt_sl, SwP.rt_rv, SwP.rt_call, SwP.rt_bi, SwP.rt_mt, SwP.rt_lc, SwP.rt_col, SwP.fr_im, SwP.fr_un, SwP.fr_mu, SwP.canSet_zero, SwP.canSet_succ, SwP.put_eq, SwP.putIf_t, SwP.putF_s, SwP.setW_zero, SwP.setW_succ, SwP.ofT_im, SwP.ofT_nu, SwP.rdV_eq, SwP.rdW_im, SwP.rdW_fz, SwP.rdW_l, SwP.rdW_s, SwP.rdW_kf, SwP.rdW_kt, SwP.isMu_eq, SwP.isMuW_l, SwP.isMuW_pop, SwP.isMuW_ix, SwP.isMuW_lix, SwP.isMuW_add, SwP.isMuW_im, SwP.isMuW_fz, SwP.storeAt_im, SwP.storeW_0, SwP.storeW_1, SwP.aug_add, SwP.aug_sub, SwP.retV_m, SwP.retV_im, SwP.retV_mt, SwP.retV_fz, SwP.agsOk_nil, SwP.agsOk_n, SwP.agsOk_s, SwP.ws_nil, SwP.ws_cons, SwP.gb_nil, SwP.gb_n, SwP.gb_s, SwP.gbW_m, SwP.gbW_fT, SwP.gbW_fF, SwP.give_n, SwP.give_t, SwP.give_l, SwP.give_p, SwP.gives_nil, SwP.gives_cons, SwP.givesK_s, SwP.wipe_nil, SwP.wipe_cons, SwP.unw_nil, SwP.unw_cons, SwP.b_add, SwP.b_sub, SwP.b_mul, SwP.mulOk_l, SwP.mulOk_r, SwP.b_fdiv, SwP.b_mod, SwP.b_pow18, SwP.c_lt, SwP.c_le, SwP.c_gt, SwP.c_ge, SwP.c_eqI, SwP.c_neI, SwP.c_isN, SwP.c_isnN, SwP.t_bl, SwP.t_int, SwP.t_tup, SwP.t_lst, SwP.t_nu, SwP.t_non, SwP.d_im, SwP.d_nu, SwP.intOf_i, SwP.seq_t, SwP.seq_l, SwP.seq_n, SwP.ix_t, SwP.ix_l, SwP.ix_n, SwP.atIx_0, SwP.atIx_1, SwP.atIx_2, SwP.atIx_m1, SwP.sl_t, SwP.sl_l, SwP.sl_n, SwP.rv_t, SwP.rv_l, SwP.rv_n, SwP.int_b, SwP.int_i, SwP.len_t, SwP.len_l, SwP.len_n, SwP.tuple_t, SwP.tuple_l, SwP.tuple_n, SwP.list_t, SwP.list_l, SwP.list_n, SwP.max_i, SwP.min_i, SwP.isi_ii, SwP.isi_ib, SwP.isi_bb, SwP.isi_tt, SwP.w_range, SwP.w_zipT, SwP.w_zipL, SwP.w_enumT, SwP.w_enumL, SwP.w_revT, List.getElem?_cons_zero, List.getElem?_cons_succ, List.contains_nil, List.contains_cons, Bool.not_true, Bool.not_false, Bool.true_and, Bool.and_true, Bool.false_or, Bool.or_false, List.getD_cons_zero, List.getD_cons_succ, Option.map_some, Int.reduceNeg, Nat.reduceLT, Nat.reduceLeDiff, Int.reduceLT, Int.reduceLE, Int.reduceEq, Int.reduceAdd, Int.reduceSub, Int.reduceMul, Nat.reduceAdd, Nat.reduceBEq, Nat.reduceEqDiff, decide_true, decide_false, SwP.mkTup_eq, SwP.mkLst_eq, SwP.b_addT, SwP.b_addNN, SwP.b_addIN, SwP.b_addNI, SwP.mt_append, SwP.mt_popAt, SwP.mt_pop, SwP.col_t, SwP.col_l, List.length_cons, List.length_nil, SwP.nums_len, SwP.prs_len, SwP.upto_len, SL, SwP.range_1, SwP.sorted_prs, SwP.sorted_prsI, SwP.lcIf_nil, SwP.lcIf_no, SwP.lcIf_cmp, SwP.lcIf_chain, SwP.lcIf_an, SwP.lcIf_oo, SwP.lcIf_call, SwP.c_neNN, SwP.c_eqNN, SwP.cut_takeI, SwP.cut_dropI, SwP.cut_m1, Int.reduceToNat, eq_self, Int.neg_neg, Int.toNat_natCast, e1, hat, e2, e3, e4, c3, c4]
    exact mm
/-- ways, stage by stage -/
def wys (ws : List (List Nat)) : List D := ws.map fun w => .tup (nums w)
theorem wys_len {ws : List (List Nat)} : (wys ws).length = ws.length := by simp [wys]
theorem wys_snoc {ws : List (List Nat)} {w : List Nat} : wys ws ++ [.tup (nums w)] = wys (ws ++ [w]) := by simp [wys]
/-- ways for these stages -/
def Fit (sts : List (List (Nat × Nat))) (ws : List (List Nat)) : Prop := ws.map List.length = sts.map List.length ∧ ∀ w ∈ ws, ∀ k ∈ w, k < 2
theorem settingB (n : Nat) {d : List D} (hd : StB d) {x : D} {sts : List (List (Nat × Nat))} (hs : sts.length ≤ 1000) (hs2 : ∀ s ∈ sts, s.length ≤ 1000) :
    Calls (callD prog (n + 2)) 7 [.mu true (.l d), .im (.tup [x, .tup (stg sts)])] fun t ws => ∃ (us : List (List Nat)) (d' : List D), t = .im (.tup (wys us)) ∧ Fit sts us ∧ ws = [.mu true (.l d'), .im (.tup [x, .tup (stg sts)])] ∧ StB d' := by
  refine calls_of (fn := f_l_setting) rfl rfl ?_
  show WR (sx _ f_l_setting.body [.mu true (.l d), .im (.tup [x, .tup (stg sts)]), .un, .un, .un]) _
  unfold f_l_setting
  simp -implicitDefEqProofs only [SwP.bnd_ok, SwP.bnd_bad, SwP.rof_some, SwP.ev_c, SwP.ev_v, SwP.kOp2, SwP.kOp, SwP.ev_op, SwP.kCmp2, SwP.kCmp, SwP.ev_cmp, SwP.cmpR_eq, SwP.mapB, SwP.mapD, SwP.mapO, SwP.kChain, SwP.kChain2, SwP.kChain3, SwP.kChain4, SwP.ev_chain, SwP.kNeg, SwP.ev_neg, SwP.tst_eq, SwP.kTru, SwP.kNo, SwP.ev_no, SwP.kAn, SwP.kAn2, SwP.ev_an, SwP.kOo, SwP.kOo2, SwP.ev_oo, SwP.kIfE, SwP.ev_ite, SwP.ev_tup, SwP.ev_lst, SwP.kIx, SwP.kIx2, SwP.ev_ix, SwP.kSl, SwP.kSl2, SwP.kSl3, SwP.ev_sl, SwP.kRv, SwP.ev_rv, SwP.kCall_eq, SwP.dcIf_t, SwP.dcAt_eq, SwP.dcBack_eq, SwP.ev_call, SwP.kBi, SwP.ev_len, SwP.ev_tuple, SwP.ev_list, SwP.ev_sorted, SwP.ev_sum, SwP.ev_repr, SwP.ev_isinst, SwP.ev_max, SwP.ev_min, SwP.ev_set, SwP.ev_int, SwP.kMtV2, SwP.kMtV, SwP.mtAt_t, SwP.mtAt_f, SwP.kMtS_eq, SwP.ev_mt, SwP.ev_lc, SwP.ev_col, SwP.kCol, SwP.evs_nil, SwP.evs_cons, SwP.kEvs, SwP.kEvs2, SwP.evt_nil, SwP.evt_cons, SwP.kEvt, SwP.kEvt2, SwP.evo_nil, SwP.evo_c, SwP.evo_v, SwP.evo_op, SwP.evo_neg, SwP.evo_call, SwP.kBd, SwP.evi_range, SwP.evi_zip, SwP.evi_enum, SwP.evi_rev, SwP.evi_v, SwP.evi_c, SwP.evi_ix, SwP.evi_sl, SwP.evi_tup, SwP.evi_lst, SwP.evi_call, SwP.evi_op, SwP.evi_rv, SwP.evi_lc, SwP.evi_sorted, SwP.kSeqOf, SwP.kWalk, SwP.eva_nil, SwP.eva_v, SwP.eva_c, SwP.eva_op, SwP.eva_neg, SwP.eva_ix, SwP.eva_sl, SwP.eva_rv, SwP.eva_tup, SwP.eva_lst, SwP.eva_call, SwP.eva_bi, SwP.eva_lc, SwP.eva_col, SwP.eva_ite, SwP.eva_mt, SwP.kAg, SwP.kAg2, SwP.kAgD, SwP.kAgM, SwP.agM2_mu, SwP.agV_mu, SwP.agV_im, SwP.agV_fz, SwP.sx_skip, SwP.sx_seq, SwP.kSeq_nx, SwP.kSeq_rt, SwP.kSeq_bk, SwP.kSeq_ct, SwP.kPut, SwP.kGive, SwP.sx_asgN, SwP.sx_asgT, SwP.kSix, SwP.kSix2, SwP.sixAt_t, SwP.sx_six, SwP.kSwp, SwP.kSwp2, SwP.kSwp4, SwP.kSwp5, SwP.swpAt_t, SwP.sx_swp, SwP.augP_s, SwP.kAug2_int, SwP.kAug, SwP.sx_aug, SwP.kEx, SwP.sx_ex, SwP.kRet, SwP.sx_retv, SwP.sx_ite, SwP.kIte_t, SwP.kIte_f, SwP.sx_for, SwP.sx_wh, SwP.sx_brk, SwP.sx_cont, SwP.rt_c, SwP.rt_op, SwP.rt_cmp, SwP.rt_chain, SwP.rt_neg, SwP.rt_no, SwP.rt_an, SwP.rt_oo, SwP.rt_ite, SwP.rt_tup, SwP.rt_lst, SwP.rt_ix, SwP.rt_sl, SwP.rt_rv, SwP.rt_call, SwP.rt_bi, SwP.rt_mt, SwP.rt_lc, SwP.rt_col, SwP.fr_im, SwP.fr_un, SwP.fr_mu, SwP.canSet_zero, SwP.canSet_succ, SwP.put_eq, SwP.putIf_t, SwP.putF_s, SwP.setW_zero, SwP.setW_succ, SwP.ofT_im, SwP.ofT_nu, SwP.rdV_eq, SwP.rdW_im, SwP.rdW_fz, SwP.rdW_l, SwP.rdW_s, SwP.rdW_kf, SwP.rdW_kt, SwP.isMu_eq, SwP.isMuW_l, SwP.isMuW_pop, SwP.isMuW_ix, SwP.isMuW_lix, SwP.isMuW_add, SwP.isMuW_im, SwP.isMuW_fz, SwP.storeAt_im, SwP.storeW_0, SwP.storeW_1, SwP.aug_add, SwP.aug_sub, SwP.retV_m, SwP.retV_im, SwP.retV_mt, SwP.retV_fz, SwP.agsOk_nil, SwP.agsOk_n, SwP.agsOk_s, SwP.ws_nil, SwP.ws_cons, SwP.gb_nil, SwP.gb_n, SwP.gb_s, SwP.gbW_m, SwP.gbW_fT, SwP.gbW_fF, SwP.give_n, SwP.give_t, SwP.give_l, SwP.give_p, SwP.gives_nil, SwP.gives_cons, SwP.givesK_s, SwP.wipe_nil, SwP.wipe_cons, SwP.unw_nil, SwP.unw_cons, SwP.b_add, SwP.b_sub, SwP.b_mul, SwP.mulOk_l, SwP.mulOk_r, SwP.b_fdiv, SwP.b_mod, SwP.b_pow18, SwP.c_lt, SwP.c_le, SwP.c_gt, SwP.c_ge, SwP.c_eqI, SwP.c_neI, SwP.c_isN, SwP.c_isnN, SwP.t_bl, SwP.t_int, SwP.t_tup, SwP.t_lst, SwP.t_nu, SwP.t_non, SwP.d_im, SwP.d_nu, SwP.intOf_i, SwP.seq_t, SwP.seq_l, SwP.seq_n, SwP.ix_t, SwP.ix_l, SwP.ix_n, SwP.atIx_0, SwP.atIx_1, SwP.atIx_2, SwP.atIx_m1, SwP.sl_t, SwP.sl_l, SwP.sl_n, SwP.rv_t, SwP.rv_l, SwP.rv_n, SwP.int_b, SwP.int_i, SwP.len_t, SwP.len_l, SwP.len_n, SwP.tuple_t, SwP.tuple_l, SwP.tuple_n, SwP.list_t, SwP.list_l, SwP.list_n, SwP.max_i, SwP.min_i, SwP.isi_ii, SwP.isi_ib, SwP.isi_bb, SwP.isi_tt, SwP.w_range, SwP.w_zipT, SwP.w_zipL, SwP.w_enumT, SwP.w_enumL, SwP.w_revT, List.getElem?_cons_zero, List.getElem?_cons_succ, List.contains_nil, List.contains_cons, Bool.not_true, Bool.not_false, Bool.true_and, Bool.and_true, Bool.false_or, Bool.or_false, List.getD_cons_zero, List.getD_cons_succ, Option.map_some, Int.reduceNeg, Nat.reduceLT, Nat.reduceLeDiff, Int.reduceLT, Int.reduceLE, Int.reduceEq, Int.reduceAdd, Int.reduceSub, Int.reduceMul, Nat.reduceAdd, Nat.reduceBEq, Nat.reduceEqDiff, decide_true, decide_false, SwP.mkTup_eq, SwP.mkLst_eq, SwP.b_addT, SwP.b_addNN, SwP.b_addIN, SwP.b_addNI, SwP.mt_append, SwP.mt_popAt, SwP.mt_pop, SwP.col_t, SwP.col_l, List.length_cons, List.length_nil, SwP.nums_len, SwP.prs_len, SwP.upto_len, SL, SwP.range_1, SwP.sorted_prs, SwP.sorted_prsI, SwP.lcIf_nil, SwP.lcIf_no, SwP.lcIf_cmp, SwP.lcIf_chain, SwP.lcIf_an, SwP.lcIf_oo, SwP.lcIf_call, SwP.c_neNN, SwP.c_eqNN, SwP.cut_takeI, SwP.cut_dropI, SwP.cut_m1, Int.reduceToNat, eq_self, Int.neg_neg, Int.toNat_natCast]
  simp only [wr_bnd]
  refine wr_for (I := fun i env => ∃ di us w3 w4, env = [.mu true (.l di), .im (.tup [x, .tup (stg sts)]), .mu false (.l (wys us)), w3, w4] ∧ fr w3 = true ∧ fr w4 = true ∧ us.map List.length = (sts.take i).map List.length ∧ (∀ w ∈ us, ∀ k ∈ w, k < 2) ∧ StB di) ⟨d, [], _, _, rfl, rfl, rfl, rfl, by simp, hd⟩ ?_ ?_
  · rintro i hi env ⟨di, us, w3, w4, rfl, f3, f4, hl, hk, hdi⟩
    have hi' : i < sts.length := by rw [stg_len] at hi; exact hi
    have hsl := hs2 _ (List.getElem_mem hi')
    have hul : us.length = i := by
      have := congrArg List.length hl
      simpa [Nat.min_eq_left (Nat.le_of_lt hi')] using this
    refine ⟨_, by rw [stg_get hi]; simp -implicitDefEqProofs only [SwP.bnd_ok, SwP.bnd_bad, SwP.rof_some, SwP.ev_c, SwP.ev_v, SwP.kOp2, SwP.kOp, SwP.ev_op, SwP.kCmp2, SwP.kCmp, SwP.ev_cmp, SwP.cmpR_eq, SwP.mapB, SwP.mapD, SwP.mapO, SwP.kChain, SwP.kChain2, SwP.kChain3, SwP.kChain4, SwP.ev_chain, SwP.kNeg, SwP.ev_neg, SwP.tst_eq, SwP.kTru, SwP.kNo, SwP.ev_no, SwP.kAn, SwP.kAn2, SwP.ev_an, SwP.kOo, SwP.kOo2, SwP.ev_oo, SwP.kIfE, SwP.ev_ite, SwP.ev_tup, SwP.ev_lst, SwP.kIx, SwP.kIx2, SwP.ev_ix, SwP.kSl, SwP.kSl2, SwP.kSl3, SwP.ev_sl, SwP.kRv, SwP.ev_rv, SwP.kCall_eq, SwP.dcIf_t, SwP.dcAt_eq, SwP.dcBack_eq, SwP.ev_call, SwP.kBi, SwP.ev_len, SwP.ev_tuple, SwP.ev_list, SwP.ev_sorted, SwP.ev_sum, SwP.ev_repr, SwP.ev_isinst, SwP.ev_max, SwP.ev_min, SwP.ev_set, SwP.ev_int, SwP.kMtV2, SwP.kMtV, SwP.mtAt_t, SwP.mtAt_f, SwP.kMtS_eq, SwP.ev_mt, SwP.ev_lc, SwP.ev_col, SwP.kCol, SwP.evs_nil, SwP.evs_cons, SwP.kEvs, SwP.kEvs2, SwP.evt_nil, SwP.evt_cons, SwP.kEvt, SwP.kEvt2, SwP.evo_nil, SwP.evo_c, SwP.evo_v, SwP.evo_op, SwP.evo_neg, SwP.evo_call, SwP.kBd, SwP.evi_range, SwP.evi_zip, SwP.evi_enum, SwP.evi_rev, SwP.evi_v, SwP.evi_c, SwP.evi_ix, SwP.evi_sl, SwP.evi_tup, SwP.evi_lst, SwP.evi_call, SwP.evi_op, SwP.evi_rv, SwP.evi_lc, SwP.evi_sorted, SwP.kSeqOf, SwP.kWalk, SwP.eva_nil, SwP.eva_v, SwP.eva_c, SwP.eva_op, SwP.eva_neg, SwP.eva_ix, SwP.eva_sl, SwP.eva_rv, SwP.eva_tup, SwP.eva_lst, SwP.eva_call, SwP.eva_bi, SwP.eva_lc, SwP.eva_col, SwP.eva_ite, SwP.eva_mt, SwP.kAg, SwP.kAg2, SwP.kAgD, SwP.kAgM, SwP.agM2_mu, SwP.agV_mu, SwP.agV_im, SwP.agV_fz, SwP.sx_skip, SwP.sx_seq, SwP.kSeq_nx, SwP.kSeq_rt, SwP.kSeq_bk, SwP.kSeq_ct, SwP.kPut, SwP.kGive, SwP.sx_asgN, SwP.sx_asgT, SwP.kSix, SwP.kSix2, SwP.sixAt_t, SwP.sx_six, SwP.kSwp, SwP.kSwp2, SwP.kSwp4, SwP.kSwp5, SwP.swpAt_t, SwP.sx_swp, SwP.augP_s, SwP.kAug2_int, SwP.kAug, SwP.sx_aug, SwP.kEx, SwP.sx_ex, SwP.kRet, SwP.sx_retv, SwP.sx_ite, SwP.kIte_t, SwP.kIte_f, SwP.sx_for, SwP.sx_wh, SwP.sx_brk, SwP.sx_cont, SwP.rt_c, SwP.rt_op, SwP.rt_cmp, SwP.rt_chain, SwP.rt_neg, SwP.rt_no, SwP.rt_an, SwP.rt_oo, SwP.rt_ite, SwP.rt_tup, SwP.rt_lst, SwP.rt_ix, SwP.rt_sl, SwP.rt_rv, SwP.rt_call, SwP.rt_bi, SwP.rt_mt, SwP.rt_lc, SwP.rt_col, SwP.fr_im, SwP.fr_un, SwP.fr_mu, SwP.canSet_zero, SwP.canSet_succ, SwP.put_eq, SwP.putIf_t, SwP.putF_s, SwP.setW_zero, SwP.setW_succ, SwP.ofT_im, SwP.ofT_nu, SwP.rdV_eq, SwP.rdW_im, SwP.rdW_fz, SwP.rdW_l, SwP.rdW_s, SwP.rdW_kf, SwP.rdW_kt, SwP.isMu_eq, SwP.isMuW_l, SwP.isMuW_pop, SwP.isMuW_ix, SwP.isMuW_lix, SwP.isMuW_add, SwP.isMuW_im, SwP.isMuW_fz, SwP.storeAt_im, SwP.storeW_0, SwP.storeW_1, SwP.aug_add, SwP.aug_sub, SwP.retV_m, SwP.retV_im, SwP.retV_mt, SwP.retV_fz, SwP.agsOk_nil, SwP.agsOk_n, SwP.agsOk_s, SwP.ws_nil, SwP.ws_cons, SwP.gb_nil, SwP.gb_n, SwP.gb_s, SwP.gbW_m, SwP.gbW_fT, SwP.gbW_fF, SwP.give_n, SwP.give_t, SwP.give_l, SwP.give_p, SwP.gives_nil, SwP.gives_cons, SwP.givesK_s, SwP.wipe_nil, SwP.wipe_cons, SwP.unw_nil, SwP.unw_cons, SwP.b_add, SwP.b_sub, SwP.b_mul, SwP.mulOk_l, SwP.mulOk_r, SwP.b_fdiv, SwP.b_mod, SwP.b_pow18, SwP.c_lt, SwP.c_le, SwP.c_gt, SwP.c_ge, SwP.c_eqI, SwP.c_neI, SwP.c_isN, SwP.c_isnN, SwP.t_bl, SwP.t_int, SwP.t_tup, SwP.t_lst, SwP.t_nu, SwP.t_non, SwP.d_im, SwP.d_nu, SwP.intOf_i, SwP.seq_t, SwP.seq_l, SwP.seq_n, SwP.ix_t, SwP.ix_l, SwP.ix_n, SwP.atIx_0, SwP.atIx_1, SwP.atIx_2, SwP.atIx_m1, SwP.sl_t, SwP.sl_l, SwP.sl_n, SwP.rv_t, SwP.rv_l, SwP.rv_n, SwP.int_b, SwP.int_i, SwP.len_t, SwP.len_l, SwP.len_n, SwP.tuple_t, SwP.tuple_l, SwP.tuple_n, SwP.list_t, SwP.list_l, SwP.list_n, SwP.max_i, SwP.min_i, SwP.isi_ii, SwP.isi_ib, SwP.isi_bb, SwP.isi_tt, SwP.w_range, SwP.w_zipT, SwP.w_zipL, SwP.w_enumT, SwP.w_enumL, SwP.w_revT, List.getElem?_cons_zero, List.getElem?_cons_succ, List.contains_nil, List.contains_cons, Bool.not_true, Bool.not_false, Bool.true_and, Bool.and_true, Bool.false_or, Bool.or_false, List.getD_cons_zero, List.getD_cons_succ, Option.map_some, Int.reduceNeg, Nat.reduceLT, Nat.reduceLeDiff, Int.reduceLT, Int.reduceLE, Int.reduceEq, Int.reduceAdd, Int.reduceSub, Int.reduceMul, Nat.reduceAdd, Nat.reduceBEq, Nat.reduceEqDiff, decide_true, decide_false, SwP.mkTup_eq, SwP.mkLst_eq, SwP.b_addT, SwP.b_addNN, SwP.b_addIN, SwP.b_addNI, SwP.mt_append, SwP.mt_popAt, SwP.mt_pop, SwP.col_t, SwP.col_l, List.length_cons, List.length_nil, SwP.nums_len, SwP.prs_len, SwP.upto_len, SL, SwP.range_1, SwP.sorted_prs, SwP.sorted_prsI, SwP.lcIf_nil, SwP.lcIf_no, SwP.lcIf_cmp, SwP.lcIf_chain, SwP.lcIf_an, SwP.lcIf_oo, SwP.lcIf_call, SwP.c_neNN, SwP.c_eqNN, SwP.cut_takeI, SwP.cut_dropI, SwP.cut_m1, Int.reduceToNat, eq_self, Int.neg_neg, Int.toNat_natCast, f3]; rfl, ?_⟩
    simp -implicitDefEqProofs only [SwP.bnd_ok, SwP.bnd_bad, SwP.rof_some, SwP.ev_c, SwP.ev_v, SwP.kOp2, SwP.kOp, SwP.ev_op, SwP.kCmp2, SwP.kCmp, SwP.ev_cmp, SwP.cmpR_eq, SwP.mapB, SwP.mapD, SwP.mapO, SwP.kChain, SwP.kChain2, SwP.kChain3, SwP.kChain4, SwP.ev_chain, SwP.kNeg, SwP.ev_neg, SwP.tst_eq, SwP.kTru, SwP.kNo, SwP.ev_no, SwP.kAn, SwP.kAn2, SwP.ev_an, SwP.kOo, SwP.kOo2, SwP.ev_oo, SwP.kIfE, SwP.ev_ite, SwP.ev_tup, SwP.ev_lst, SwP.kIx, SwP.kIx2, SwP.ev_ix, SwP.kSl, SwP.kSl2, SwP.kSl3, SwP.ev_sl, SwP.kRv, SwP.ev_rv, SwP.kCall_eq, SwP.dcIf_t, SwP.dcAt_eq, SwP.dcBack_eq, SwP.ev_call, SwP.kBi, SwP.ev_len, SwP.ev_tuple, SwP.ev_list, SwP.ev_sorted, SwP.ev_sum, SwP.ev_repr, SwP.ev_isinst, SwP.ev_max, SwP.ev_min, SwP.ev_set, SwP.ev_int, SwP.kMtV2, SwP.kMtV, SwP.mtAt_t, SwP.mtAt_f, SwP.kMtS_eq, SwP.ev_mt, SwP.ev_lc, SwP.ev_col, SwP.kCol, SwP.evs_nil, SwP.evs_cons, SwP.kEvs, SwP.kEvs2, SwP.evt_nil, SwP.evt_cons, SwP.kEvt, SwP.kEvt2, SwP.evo_nil, SwP.evo_c, SwP.evo_v, SwP.evo_op, SwP.evo_neg, SwP.evo_call, SwP.kBd, SwP.evi_range, SwP.evi_zip, SwP.evi_enum, SwP.evi_rev, SwP.evi_v, SwP.evi_c, SwP.evi_ix, SwP.evi_sl, SwP.evi_tup, SwP.evi_lst, SwP.evi_call, SwP.evi_op, SwP.evi_rv, SwP.evi_lc, SwP.evi_sorted, SwP.kSeqOf, SwP.kWalk, SwP.eva_nil, SwP.eva_v, SwP.eva_c, SwP.eva_op, SwP.eva_neg, SwP.eva_ix, SwP.eva_sl, SwP.eva_rv, SwP.eva_tup, SwP.eva_lst, SwP.eva_call, SwP.eva_bi, SwP.eva_lc, SwP.eva_col, SwP.eva_ite, SwP.eva_mt, SwP.kAg, SwP.kAg2, SwP.kAgD, SwP.kAgM, SwP.agM2_mu, SwP.agV_mu, SwP.agV_im, SwP.agV_fz, SwP.sx_skip, SwP.sx_seq, SwP.kSeq_nx, SwP.kSeq_rt, SwP.kSeq_bk, SwP.kSeq_ct, SwP.kPut, SwP.kGive, SwP.sx_asgN, SwP.sx_asgT, SwP.kSix, SwP.kSix2, SwP.sixAt_t, SwP.sx_six, SwP.kSwp, SwP.kSwp2, SwP.kSwp4, SwP.kSwp5, SwP.swpAt_t, SwP.sx_swp, SwP.augP_s, SwP.kAug2_int, SwP.kAug, SwP.sx_aug, SwP.kEx, SwP.sx_ex, SwP.kRet, SwP.sx_retv, SwP.sx_ite, SwP.kIte_t, SwP.kIte_f, SwP.sx_for, SwP.sx_wh, SwP.sx_brk, SwP.sx_cont, SwP.rt_c, SwP.rt_op, SwP.rt_cmp, SwP.rt_chain, SwP.rt_neg, SwP.rt_no, SwP.rt_an, SwP.rt_oo, SwP.rt_ite, SwP.rt_tup, SwP.rt_lst, SwP.rt_ix, SwP.rt_sl, SwP.rt_rv, SwP.rt_call, SwP.rt_bi, SwP.rt_mt, SwP.rt_lc, SwP.rt_col, SwP.fr_im, SwP.fr_un, SwP.fr_mu, SwP.canSet_zero, SwP.canSet_succ, SwP.put_eq, SwP.putIf_t, SwP.putF_s, SwP.setW_zero, SwP.setW_succ, SwP.ofT_im, SwP.ofT_nu, SwP.rdV_eq, SwP.rdW_im, SwP.rdW_fz, SwP.rdW_l, SwP.rdW_s, SwP.rdW_kf, SwP.rdW_kt, SwP.isMu_eq, SwP.isMuW_l, SwP.isMuW_pop, SwP.isMuW_ix, SwP.isMuW_lix, SwP.isMuW_add, SwP.isMuW_im, SwP.isMuW_fz, SwP.storeAt_im, SwP.storeW_0, SwP.storeW_1, SwP.aug_add, SwP.aug_sub, SwP.retV_m, SwP.retV_im, SwP.retV_mt, SwP.retV_fz, SwP.agsOk_nil, SwP.agsOk_n, SwP.agsOk_s, SwP.ws_nil, SwP.ws_cons, SwP.gb_nil, SwP.gb_n, SwP.gb_s, SwP.gbW_m, SwP.gbW_fT, SwP.gbW_fF, SwP.give_n, SwP.give_t, SwP.give_l, SwP.give_p, SwP.gives_nil, SwP.gives_cons, SwP.givesK_s, SwP.wipe_nil, SwP.wipe_cons, SwP.unw_nil, SwP.unw_cons, SwP.b_add, SwP.b_sub, SwP.b_mul, SwP.mulOk_l, SwP.mulOk_r, SwP.b_fdiv, SwP.b_mod, SwP.b_pow18, SwP.c_lt, SwP.c_le, SwP.c_gt, SwP.c_ge, SwP.c_eqI, SwP.c_neI, SwP.c_isN, SwP.c_isnN, SwP.t_bl, SwP.t_int, SwP.t_tup, SwP.t_lst, SwP.t_nu, SwP.t_non, SwP.d_im, SwP.d_nu, SwP.intOf_i, SwP.seq_t, SwP.seq_l, SwP.seq_n, SwP.ix_t, SwP.ix_l, SwP.ix_n, SwP.atIx_0, SwP.atIx_1, SwP.atIx_2, SwP.atIx_m1, SwP.sl_t, SwP.sl_l, SwP.sl_n, SwP.rv_t, SwP.rv_l, SwP.rv_n, SwP.int_b, SwP.int_i, SwP.len_t, SwP.len_l, SwP.len_n, SwP.tuple_t, SwP.tuple_l, SwP.tuple_n, SwP.list_t, SwP.list_l, SwP.list_n, SwP.max_i, SwP.min_i, SwP.isi_ii, SwP.isi_ib, SwP.isi_bb, SwP.isi_tt, SwP.w_range, SwP.w_zipT, SwP.w_zipL, SwP.w_enumT, SwP.w_enumL, SwP.w_revT, List.getElem?_cons_zero, List.getElem?_cons_succ, List.contains_nil, List.contains_cons, Bool.not_true, Bool.not_false, Bool.true_and, Bool.and_true, Bool.false_or, Bool.or_false, List.getD_cons_zero, List.getD_cons_succ, Option.map_some, Int.reduceNeg, Nat.reduceLT, Nat.reduceLeDiff, Int.reduceLT, Int.reduceLE, Int.reduceEq, Int.reduceAdd, Int.reduceSub, Int.reduceMul, Nat.reduceAdd, Nat.reduceBEq, Nat.reduceEqDiff, decide_true, decide_false, SwP.mkTup_eq, SwP.mkLst_eq, SwP.b_addT, SwP.b_addNN, SwP.b_addIN, SwP.b_addNI, SwP.mt_append, SwP.mt_popAt, SwP.mt_pop, SwP.col_t, SwP.col_l, List.length_cons, List.length_nil, SwP.nums_len, SwP.prs_len, SwP.upto_len, SL, SwP.range_1, SwP.sorted_prs, SwP.sorted_prsI, SwP.lcIf_nil, SwP.lcIf_no, SwP.lcIf_cmp, SwP.lcIf_chain, SwP.lcIf_an, SwP.lcIf_oo, SwP.lcIf_call, SwP.c_neNN, SwP.c_eqNN, SwP.cut_takeI, SwP.cut_dropI, SwP.cut_m1, Int.reduceToNat, eq_self, Int.neg_neg, Int.toNat_natCast]
    simp only [wr_bnd]
    refine wr_lc rfl (I := fun j acc env => ∃ dj u w4, env = [.mu true (.l dj), .im (.tup [x, .tup (stg sts)]), .mu false (.l (wys us)), .im (.tup (prs sts[i])), w4] ∧ acc = nums u ∧ u.length = j ∧ (∀ k ∈ u, k < 2) ∧ StB dj) ⟨di, [], _, rfl, rfl, rfl, by simp, hdi⟩ ?_ ?_
    · rintro j hj acc env ⟨dj, u, w4, rfl, rfl, hu, hu2, hdj⟩
      rw [prs_len] at hj
      obtain ⟨_, _, e5, r5, d5, hr5, rfl, rfl, hd5⟩ := drawB n hdj (m := 2) (by omega) (by omega)
      refine ⟨_, by simp -implicitDefEqProofs only [SwP.bnd_ok, SwP.bnd_bad, SwP.rof_some, SwP.ev_c, SwP.ev_v, SwP.kOp2, SwP.kOp, SwP.ev_op, SwP.kCmp2, SwP.kCmp, SwP.ev_cmp, SwP.cmpR_eq, SwP.mapB, SwP.mapD, SwP.mapO, SwP.kChain, SwP.kChain2, SwP.kChain3, SwP.kChain4, SwP.ev_chain, SwP.kNeg, SwP.ev_neg, SwP.tst_eq, SwP.kTru, SwP.kNo, SwP.ev_no, SwP.kAn, SwP.kAn2, SwP.ev_an, SwP.kOo, SwP.kOo2, SwP.ev_oo, SwP.kIfE, SwP.ev_ite, SwP.ev_tup, SwP.ev_lst, SwP.kIx, SwP.kIx2, SwP.ev_ix, SwP.kSl, SwP.kSl2, SwP.kSl3, SwP.ev_sl, SwP.kRv, SwP.ev_rv, SwP.kCall_eq, SwP.dcIf_t, SwP.dcAt_eq, SwP.dcBack_eq, SwP.ev_call, SwP.kBi, SwP.ev_len, SwP.ev_tuple, SwP.ev_list, SwP.ev_sorted, SwP.ev_sum, SwP.ev_repr, SwP.ev_isinst, SwP.ev_max, SwP.ev_min, SwP.ev_set, SwP.ev_int, SwP.kMtV2, SwP.kMtV, SwP.mtAt_t, SwP.mtAt_f, SwP.kMtS_eq, SwP.ev_mt, SwP.ev_lc, SwP.ev_col, SwP.kCol, SwP.evs_nil, SwP.evs_cons, SwP.kEvs, SwP.kEvs2, SwP.evt_nil, SwP.evt_cons, SwP.kEvt, SwP.kEvt2, SwP.evo_nil, SwP.evo_c, SwP.evo_v, SwP.evo_op, SwP.evo_neg, SwP.evo_call, SwP.kBd, SwP.evi_range, SwP.evi_zip, SwP.evi_enum, SwP.evi_rev, SwP.evi_v, SwP.evi_c, SwP.evi_ix, SwP.evi_sl, SwP.evi_tup, SwP.evi_lst, SwP.evi_call, SwP.evi_op, SwP.evi_rv, SwP.evi_lc, SwP.evi_sorted, SwP.kSeqOf, SwP.kWalk, SwP.eva_nil, SwP.eva_v, SwP.eva_c, SwP.eva_op, SwP.eva_neg, SwP.eva_ix, SwP.eva_sl, SwP.eva_rv, SwP.eva_tup, SwP.eva_lst, SwP.eva_call, SwP.eva_bi, SwP.eva_lc, SwP.eva_col, SwP.eva_ite, SwP.eva_mt, SwP.kAg, SwP.kAg2, SwP.kAgD, SwP.kAgM, SwP.agM2_mu, SwP.agV_mu, SwP.agV_im, SwP.agV_fz, SwP.sx_skip, SwP.sx_seq, SwP.kSeq_nx, SwP.kSeq_rt, SwP.kSeq_bk, SwP.kSeq_ct, SwP.kPut, SwP.kGive, SwP.sx_asgN, SwP.sx_asgT, SwP.kSix, SwP.kSix2, SwP.sixAt_t, SwP.sx_six, SwP.kSwp, SwP.kSwp2, SwP.kSwp4, SwP.kSwp5, SwP.swpAt_t, SwP.sx_swp, SwP.augP_s, SwP.kAug2_int, SwP.kAug, SwP.sx_aug, SwP.kEx, SwP.sx_ex, SwP.kRet, SwP.sx_retv, SwP.sx_ite, SwP.kIte_t, SwP.kIte_f, SwP.sx_for, SwP.sx_wh, SwP.sx_brk, SwP.sx_cont, SwP.rt_c, SwP.rt_op, SwP.rt_cmp, SwP.rt_chain, SwP.rt_neg, SwP.rt_no, SwP.rt_an, SwP.rt_oo, SwP.rt_ite, SwP.rt_tup, SwP.rt_lst, SwP.rt_ix, SwP.rt_sl, SwP.rt_rv, SwP.rt_call, SwP.rt_bi, SwP.rt_mt, SwP.rt_lc, SwP.rt_col, SwP.fr_im, SwP.fr_un, SwP.fr_mu, SwP.canSet_zero, SwP.canSet_succ, SwP.put_eq, SwP.putIf_t, SwP.putF_s, SwP.setW_zero, SwP.setW_succ, SwP.ofT_im, SwP.ofT_nu, SwP.rdV_eq, SwP.rdW_im, SwP.rdW_fz, SwP.rdW_l, SwP.rdW_s, SwP.rdW_kf, SwP.rdW_kt, SwP.isMu_eq, SwP.isMuW_l, SwP.isMuW_pop, SwP.isMuW_ix, SwP.isMuW_lix, SwP.isMuW_add, SwP.isMuW_im, SwP.isMuW_fz, SwP.storeAt_im, SwP.storeW_0, SwP.storeW_1, SwP.aug_add, SwP.aug_sub, SwP.retV_m, SwP.retV_im, SwP.retV_mt, SwP.retV_fz, SwP.agsOk_nil, SwP.agsOk_n, SwP.agsOk_s, SwP.ws_nil, SwP.ws_cons, SwP.gb_nil, SwP.gb_n, SwP.gb_s, SwP.gbW_m, SwP.gbW_fT, SwP.gbW_fF, SwP.give_n, SwP.give_t, SwP.give_l, SwP.give_p, SwP.gives_nil, SwP.gives_cons, SwP.givesK_s, SwP.wipe_nil, SwP.wipe_cons, SwP.unw_nil, SwP.unw_cons, SwP.b_add, SwP.b_sub, SwP.b_mul, SwP.mulOk_l, SwP.mulOk_r, SwP.b_fdiv, SwP.b_mod, SwP.b_pow18, SwP.c_lt, SwP.c_le, SwP.c_gt, SwP.c_ge, SwP.c_eqI, SwP.c_neI, SwP.c_isN, SwP.c_isnN, SwP.t_bl, SwP.t_int, SwP.t_tup, SwP.t_lst, SwP.t_nu, SwP.t_non, SwP.d_im, SwP.d_nu, SwP.intOf_i, SwP.seq_t, SwP.seq_l, SwP.seq_n, SwP.ix_t, SwP.ix_l, SwP.ix_n, SwP.atIx_0, SwP.atIx_1, SwP.atIx_2, SwP.atIx_m1, SwP.sl_t, SwP.sl_l, SwP.sl_n, SwP.rv_t, SwP.rv_l, SwP.rv_n, SwP.int_b, SwP.int_i, SwP.len_t, SwP.len_l, SwP.len_n, SwP.tuple_t, SwP.tuple_l, SwP.tuple_n, SwP.list_t, SwP.list_l, SwP.list_n, SwP.max_i, SwP.min_i, SwP.isi_ii, SwP.isi_ib, SwP.isi_bb, SwP.isi_tt, SwP.w_range, SwP.w_zipT, SwP.w_zipL, SwP.w_enumT, SwP.w_enumL, SwP.w_revT, List.getElem?_cons_zero, List.getElem?_cons_succ, List.contains_nil, List.contains_cons, Bool.not_true, Bool.not_false, Bool.true_and, Bool.and_true, Bool.false_or, Bool.or_false, List.getD_cons_zero, List.getD_cons_succ, Option.map_some, Int.reduceNeg, Nat.reduceLT, Nat.reduceLeDiff, Int.reduceLT, Int.reduceLE, Int.reduceEq, Int.reduceAdd, Int.reduceSub, Int.reduceMul, Nat.reduceAdd, Nat.reduceBEq, Nat.reduceEqDiff, decide_true, decide_false, SwP.mkTup_eq, SwP.mkLst_eq, SwP.b_addT, SwP.b_addNN, SwP.b_addIN, SwP.b_addNI, SwP.mt_append, SwP.mt_popAt, SwP.mt_pop, SwP.col_t, SwP.col_l, List.length_cons, List.length_nil, SwP.nums_len, SwP.prs_len, SwP.upto_len, SL, SwP.range_1, SwP.sorted_prs, SwP.sorted_prsI, SwP.lcIf_nil, SwP.lcIf_no, SwP.lcIf_cmp, SwP.lcIf_chain, SwP.lcIf_an, SwP.lcIf_oo, SwP.lcIf_call, SwP.c_neNN, SwP.c_eqNN, SwP.cut_takeI, SwP.cut_dropI, SwP.cut_m1, Int.reduceToNat, eq_self, Int.neg_neg, Int.toNat_natCast, prs_get]; rfl, ?_⟩
      simp -implicitDefEqProofs only [SwP.bnd_ok, SwP.bnd_bad, SwP.rof_some, SwP.ev_c, SwP.ev_v, SwP.kOp2, SwP.kOp, SwP.ev_op, SwP.kCmp2, SwP.kCmp, SwP.ev_cmp, SwP.cmpR_eq, SwP.mapB, SwP.mapD, SwP.mapO, SwP.kChain, SwP.kChain2, SwP.kChain3, SwP.kChain4, SwP.ev_chain, SwP.kNeg, SwP.ev_neg, SwP.tst_eq, SwP.kTru, SwP.kNo, SwP.ev_no, SwP.kAn, SwP.kAn2, SwP.ev_an, SwP.kOo, SwP.kOo2, SwP.ev_oo, SwP.kIfE, SwP.ev_ite, SwP.ev_tup, SwP.ev_lst, SwP.kIx, SwP.kIx2, SwP.ev_ix, SwP.kSl, SwP.kSl2, SwP.kSl3, SwP.ev_sl, SwP.kRv, SwP.ev_rv, SwP.kCall_eq, SwP.dcIf_t, SwP.dcAt_eq, SwP.dcBack_eq, SwP.ev_call, SwP.kBi, SwP.ev_len, SwP.ev_tuple, SwP.ev_list, SwP.ev_sorted, SwP.ev_sum, SwP.ev_repr, SwP.ev_isinst, SwP.ev_max, SwP.ev_min, SwP.ev_set, SwP.ev_int, SwP.kMtV2, SwP.kMtV, SwP.mtAt_t, SwP.mtAt_f, SwP.kMtS_eq, SwP.ev_mt, SwP.ev_lc, SwP.ev_col, SwP.kCol, SwP.evs_nil, SwP.evs_cons, SwP.kEvs, SwP.kEvs2, SwP.evt_nil, SwP.evt_cons, SwP.kEvt, SwP.kEvt2, SwP.evo_nil, SwP.evo_c, SwP.evo_v, SwP.evo_op, SwP.evo_neg, SwP.evo_call, SwP.kBd, SwP.evi_range, SwP.evi_zip, SwP.evi_enum, SwP.evi_rev, SwP.evi_v, SwP.evi_c, SwP.evi_ix, SwP.evi_sl, SwP.evi_tup, SwP.evi_lst, SwP.evi_call, SwP.evi_op, SwP.evi_rv, SwP.evi_lc, SwP.evi_sorted, SwP.kSeqOf, SwP.kWalk, SwP.eva_nil, SwP.eva_v, SwP.eva_c, SwP.eva_op, SwP.eva_neg, SwP.eva_ix, SwP.eva_sl, SwP.eva_rv, SwP.eva_tup, SwP.eva_lst, SwP.eva_call, SwP.eva_bi, SwP.eva_lc, SwP.eva_col, SwP.eva_ite, SwP.eva_mt, SwP.kAg, SwP.kAg2, SwP.kAgD, SwP.kAgM, SwP.agM2_mu, SwP.agV_mu, SwP.agV_im, SwP.agV_fz, SwP.sx_skip, SwP.sx_seq, SwP.kSeq_nx, SwP.kSeq_rt, SwP.kSeq_bk, SwP.kSeq_ct, SwP.kPut, SwP.kGive, SwP.sx_asgN, SwP.sx_asgT, SwP.kSix, SwP.kSix2, SwP.sixAt_t, SwP.sx_six, SwP.kSwp, SwP.kSwp2, SwP.kSwp4, SwP.kSwp5, SwP.swpAt_t, SwP.sx_swp, SwP.augP_s, SwP.kAug2_int, SwP.kAug, SwP.sx_aug, SwP.kEx, SwP.sx_ex, SwP.kRet, SwP.sx_retv, SwP.sx_ite, SwP.kIte_t, SwP.kIte_f, SwP.sx_for, SwP.sx_wh, SwP.sx_brk, SwP.sx_cont, SwP.rt_c, SwP.rt_op, SwP.rt_cmp, SwP.rt_chain, SwP.rt_neg, SwP.rt_no, SwP.rt_an, SwP.rt_oo, SwP.rt_ite, SwP.rt_tup, SwP.rt_lst, SwP.rt_ix, SwP.rt_sl, SwP.rt_rv, SwP.rt_call, SwP.rt_bi, SwP.rt_mt, SwP.rt_lc, SwP.rt_col, SwP.fr_im, SwP.fr_un, SwP.fr_mu, SwP.canSet_zero, SwP.canSet_succ, SwP.put_eq, SwP.putIf_t, SwP.putF_s, SwP.setW_zero, SwP.setW_succ, SwP.ofT_im, SwP.ofT_nu, SwP.rdV_eq, SwP.rdW_im, SwP.rdW_fz, SwP.rdW_l, SwP.rdW_s, SwP.rdW_kf, SwP.rdW_kt, SwP.isMu_eq, SwP.isMuW_l, SwP.isMuW_pop, SwP.isMuW_ix, SwP.isMuW_lix, SwP.isMuW_add, SwP.isMuW_im, SwP.isMuW_fz, SwP.storeAt_im, SwP.storeW_0, SwP.storeW_1, SwP.aug_add, SwP.aug_sub, SwP.retV_m, SwP.retV_im, SwP.retV_mt, SwP.retV_fz, SwP.agsOk_nil, SwP.agsOk_n, SwP.agsOk_s, SwP.ws_nil, SwP.ws_cons, SwP.gb_nil, SwP.gb_n, SwP.gb_s, SwP.gbW_m, SwP.gbW_fT, SwP.gbW_fF, SwP.give_n, SwP.give_t, SwP.give_l, SwP.give_p, SwP.gives_nil, SwP.gives_cons, SwP.givesK_s, SwP.wipe_nil, SwP.wipe_cons, SwP.unw_nil, SwP.unw_cons, SwP.b_add, SwP.b_sub, SwP.b_mul, SwP.mulOk_l, SwP.mulOk_r, SwP.b_fdiv, SwP.b_mod, SwP.b_pow18, SwP.c_lt, SwP.c_le, SwP.c_gt, SwP.c_ge, SwP.c_eqI, SwP.c_neI, SwP.c_isN, SwP.c_isnN, SwP.t_bl, SwP.t_int, SwP.t_tup, SwP.t_lst, SwP.t_nu, SwP.t_non, SwP.d_im, SwP.d_nu, SwP.intOf_i, SwP.seq_t, SwP.seq_l, SwP.seq_n, SwP.ix_t, SwP.ix_l, SwP.ix_n, SwP.atIx_0, SwP.atIx_1, SwP.atIx_2, SwP.atIx_m1, SwP.sl_t, SwP.sl_l, SwP.sl_n, SwP.rv_t, SwP.rv_l, SwP.rv_n, SwP.int_b, SwP.int_i, SwP.len_t, SwP.len_l, SwP.len_n, SwP.tuple_t, SwP.tuple_l, SwP.tuple_n, SwP.list_t, SwP.list_l, SwP.list_n, SwP.max_i, SwP.min_i, SwP.isi_ii, SwP.isi_ib, SwP.isi_bb, SwP.isi_tt, SwP.w_range, SwP.w_zipT, SwP.w_zipL, SwP.w_enumT, SwP.w_enumL, SwP.w_revT, List.getElem?_cons_zero, List.getElem?_cons_succ, List.contains_nil, List.contains_cons, Bool.not_true, Bool.not_false, Bool.true_and, Bool.and_true, Bool.false_or, Bool.or_false, List.getD_cons_zero, List.getD_cons_succ, Option.map_some, Int.reduceNeg, Nat.reduceLT, Nat.reduceLeDiff, Int.reduceLT, Int.reduceLE, Int.reduceEq, Int.reduceAdd, Int.reduceSub, Int.reduceMul, Nat.reduceAdd, Nat.reduceBEq, Nat.reduceEqDiff, decide_true, decide_false, SwP.mkTup_eq, SwP.mkLst_eq, SwP.b_addT, SwP.b_addNN, SwP.b_addIN, SwP.b_addNI, SwP.mt_append, SwP.mt_popAt, SwP.mt_pop, SwP.col_t, SwP.col_l, List.length_cons, List.length_nil, SwP.nums_len, SwP.prs_len, SwP.upto_len, SL, SwP.range_1, SwP.sorted_prs, SwP.sorted_prsI, SwP.lcIf_nil, SwP.lcIf_no, SwP.lcIf_cmp, SwP.lcIf_chain, SwP.lcIf_an, SwP.lcIf_oo, SwP.lcIf_call, SwP.c_neNN, SwP.c_eqNN, SwP.cut_takeI, SwP.cut_dropI, SwP.cut_m1, Int.reduceToNat, eq_self, Int.neg_neg, Int.toNat_natCast, e5, wr_ok]
      refine ⟨_, rfl, by omega, d5, u ++ [r5], _, rfl, by rw [nums_app]; rfl, by simp [hu], fun k hk => ?_, hd5⟩
      rcases List.mem_append.mp hk with h | h
      · exact hu2 k h
      · simp only [List.mem_singleton] at h
        omega
    · rintro acc env ⟨dj, u, w5, rfl, rfl, hu, hu2, hdj⟩
      rw [prs_len] at hu
      have b6 : us.length < 16777216 := by omega
      simp -implicitDefEqProofs only [SwP.bnd_ok, SwP.bnd_bad, SwP.rof_some, SwP.ev_c, SwP.ev_v, SwP.kOp2, SwP.kOp, SwP.ev_op, SwP.kCmp2, SwP.kCmp, SwP.ev_cmp, SwP.cmpR_eq, SwP.mapB, SwP.mapD, SwP.mapO, SwP.kChain, SwP.kChain2, SwP.kChain3, SwP.kChain4, SwP.ev_chain, SwP.kNeg, SwP.ev_neg, SwP.tst_eq, SwP.kTru, SwP.kNo, SwP.ev_no, SwP.kAn, SwP.kAn2, SwP.ev_an, SwP.kOo, SwP.kOo2, SwP.ev_oo, SwP.kIfE, SwP.ev_ite, SwP.ev_tup, SwP.ev_lst, SwP.kIx, SwP.kIx2, SwP.ev_ix, SwP.kSl, SwP.kSl2, SwP.kSl3, SwP.ev_sl, SwP.kRv, SwP.ev_rv, SwP.kCall_eq, SwP.dcIf_t, SwP.dcAt_eq, SwP.dcBack_eq, SwP.ev_call, SwP.kBi, SwP.ev_len, SwP.ev_tuple, SwP.ev_list, SwP.ev_sorted, SwP.ev_sum, SwP.ev_repr, SwP.ev_isinst, SwP.ev_max, SwP.ev_min, SwP.ev_set, SwP.ev_int, SwP.kMtV2, SwP.kMtV, SwP.mtAt_t, SwP.mtAt_f, SwP.kMtS_eq, SwP.ev_mt, SwP.ev_lc, SwP.ev_col, SwP.kCol, SwP.evs_nil, SwP.evs_cons, SwP.kEvs, SwP.kEvs2, SwP.evt_nil, SwP.evt_cons, SwP.kEvt, SwP.kEvt2, SwP.evo_nil, SwP.evo_c, SwP.evo_v, SwP.evo_op, SwP.evo_neg, SwP.evo_call, SwP.kBd, SwP.evi_range, SwP.evi_zip, SwP.evi_enum, SwP.evi_rev, SwP.evi_v, SwP.evi_c, SwP.evi_ix, SwP.evi_sl, SwP.evi_tup, SwP.evi_lst, SwP.evi_call, SwP.evi_op, SwP.evi_rv, SwP.evi_lc, SwP.evi_sorted, SwP.kSeqOf, SwP.kWalk, SwP.eva_nil, SwP.eva_v, SwP.eva_c, SwP.eva_op, SwP.eva_neg, SwP.eva_ix, SwP.eva_sl, SwP.eva_rv, SwP.eva_tup, SwP.eva_lst, SwP.eva_call, SwP.eva_bi, SwP.eva_lc, SwP.eva_col, SwP.eva_ite, SwP.eva_mt, SwP.kAg, SwP.kAg2, SwP.kAgD, SwP.kAgM, SwP.agM2_mu, SwP.agV_mu, SwP.agV_im, SwP.agV_fz, SwP.sx_skip, SwP.sx_seq, SwP.kSeq_nx, SwP.kSeq_rt, SwP.kSeq_bk, SwP.kSeq_ct, SwP.kPut, SwP.kGive, SwP.sx_asgN, SwP.sx_asgT, SwP.kSix, SwP.kSix2, SwP.sixAt_t, SwP.sx_six, SwP.kSwp, SwP.kSwp2, SwP.kSwp4, SwP.kSwp5, SwP.swpAt_t, SwP.sx_swp, SwP.augP_s, SwP.kAug2_int, SwP.kAug, SwP.sx_aug, SwP.kEx, SwP.sx_ex, SwP.kRet, SwP.sx_retv, SwP.sx_ite, SwP.kIte_t, SwP.kIte_f, SwP.sx_for, SwP.sx_wh, SwP.sx_brk, SwP.sx_cont, SwP.rt_c, SwP.rt_op, SwP.rt_cmp, SwP.rt_chain, SwP.rt_neg, SwP.rt_no, SwP.rt_an, SwP.rt_oo, SwP.rt_ite, SwP.rt_tup, SwP.rt_lst, SwP.rt_ix, SwP.rt_sl, SwP.rt_rv, SwP.rt_call, SwP.rt_bi, SwP.rt_mt, SwP.rt_lc, SwP.rt_col, SwP.fr_im, SwP.fr_un, SwP.fr_mu, SwP.canSet_zero, SwP.canSet_succ, SwP.put_eq, SwP.putIf_t, SwP.putF_s, SwP.setW_zero, SwP.setW_succ, SwP.ofT_im, SwP.ofT_nu, SwP.rdV_eq, SwP.rdW_im, SwP.rdW_fz, SwP.rdW_l, SwP.rdW_s, SwP.rdW_kf, SwP.rdW_kt, SwP.isMu_eq, SwP.isMuW_l, SwP.isMuW_pop, SwP.isMuW_ix, SwP.isMuW_lix, SwP.isMuW_add, SwP.isMuW_im, SwP.isMuW_fz, SwP.storeAt_im, SwP.storeW_0, SwP.storeW_1, SwP.aug_add, SwP.aug_sub, SwP.retV_m, SwP.retV_im, SwP.retV_mt, SwP.retV_fz, SwP.agsOk_nil, SwP.agsOk_n, SwP.agsOk_s, SwP.ws_nil, SwP.ws_cons, SwP.gb_nil, SwP.gb_n, SwP.gb_s, SwP.gbW_m, SwP.gbW_fT, SwP.gbW_fF, SwP.give_n, SwP.give_t, SwP.give_l, SwP.give_p, SwP.gives_nil, SwP.gives_cons, SwP.givesK_s, SwP.wipe_nil, SwP.wipe_cons, SwP.unw_nil, SwP.unw_cons, SwP.b_add, SwP.b_sub, SwP.b_mul, SwP.mulOk_l, SwP.mulOk_r, SwP.b_fdiv, SwP.b_mod, SwP.b_pow18, SwP.c_lt, SwP.c_le, SwP.c_gt, SwP.c_ge, SwP.c_eqI, SwP.c_neI, SwP.c_isN, SwP.c_isnN, SwP.t_bl, SwP.t_int, SwP.t_tup, SwP.t_lst, SwP.t_nu, SwP.t_non, SwP.d_im, SwP.d_nu, SwP.intOf_i, SwP.seq_t, SwP.seq_l, SwP.seq_n, SwP.ix_t, SwP.ix_l, SwP.ix_n, SwP.atIx_0, SwP.atIx_1, SwP.atIx_2, SwP.atIx_m1, SwP.sl_t, SwP.sl_l, SwP.sl_n, SwP.rv_t, SwP.rv_l, SwP.rv_n, SwP.int_b, SwP.int_i, SwP.len_t, SwP.len_l, SwP.len_n, SwP.tuple_t, SwP.tuple_l, SwP.tuple_n, SwP.list_t, SwP.list_l, SwP.list_n, SwP.max_i, SwP.min_i, SwP.isi_ii, SwP.isi_ib, SwP.isi_bb, SwP.isi_tt, SwP.w_range, SwP.w_zipT, SwP.w_zipL, SwP.w_enumT, SwP.w_enumL, SwP.w_revT, List.getElem?_cons_zero, List.getElem?_cons_succ, List.contains_nil, List.contains_cons, Bool.not_true, Bool.not_false, Bool.true_and, Bool.and_true, Bool.false_or, Bool.or_false, List.getD_cons_zero, List.getD_cons_succ, Option.map_some, Int.reduceNeg, Nat.reduceLT, Nat.reduceLeDiff, Int.reduceLT, Int.reduceLE, Int.reduceEq, Int.reduceAdd, Int.reduceSub, Int.reduceMul, Nat.reduceAdd, Nat.reduceBEq, Nat.reduceEqDiff, decide_true, decide_false, SwP.mkTup_eq, SwP.mkLst_eq, SwP.b_addT, SwP.b_addNN, SwP.b_addIN, SwP.b_addNI, SwP.mt_append, SwP.mt_popAt, SwP.mt_pop, SwP.col_t, SwP.col_l, List.length_cons, List.length_nil, SwP.nums_len, SwP.prs_len, SwP.upto_len, SL, SwP.range_1, SwP.sorted_prs, SwP.sorted_prsI, SwP.lcIf_nil, SwP.lcIf_no, SwP.lcIf_cmp, SwP.lcIf_chain, SwP.lcIf_an, SwP.lcIf_oo, SwP.lcIf_call, SwP.c_neNN, SwP.c_eqNN, SwP.cut_takeI, SwP.cut_dropI, SwP.cut_m1, Int.reduceToNat, eq_self, Int.neg_neg, Int.toNat_natCast, lcT, wys_len, b6, wys_snoc, wr_ok]
      refine ⟨dj, us ++ [u], .im (.tup (prs sts[i])), w4, rfl, rfl, f4, ?_, fun w hw => ?_, hdj⟩
      · rw [List.take_succ_eq_append_getElem hi', List.map_append, List.map_append, hl]
        simp [hu]
      · rcases List.mem_append.mp hw with h | h
        · exact hk w h
        · simp only [List.mem_singleton] at h
          subst h
          exact hu2
  · rintro env ⟨di, us, w3, w4, rfl, f3, f4, hl, hk, hdi⟩
    rw [stg_len, List.take_length] at hl
    simp -implicitDefEqProofs only [SwP.bnd_ok, SwP.bnd_bad, SwP.rof_some, SwP.ev_c, SwP.ev_v, SwP.kOp2, SwP.kOp, SwP.ev_op, SwP.kCmp2, SwP.kCmp, SwP.ev_cmp, SwP.cmpR_eq, SwP.mapB, SwP.mapD, SwP.mapO, SwP.kChain, SwP.kChain2, SwP.kChain3, SwP.kChain4, SwP.ev_chain, SwP.kNeg, SwP.ev_neg, SwP.tst_eq, SwP.kTru, SwP.kNo, SwP.ev_no, SwP.kAn, SwP.kAn2, SwP.ev_an, SwP.kOo, SwP.kOo2, SwP.ev_oo, SwP.kIfE, SwP.ev_ite, SwP.ev_tup, SwP.ev_lst, SwP.kIx, SwP.kIx2, SwP.ev_ix, SwP.kSl, SwP.kSl2, SwP.kSl3, SwP.ev_sl, SwP.kRv, SwP.ev_rv, SwP.kCall_eq, SwP.dcIf_t, SwP.dcAt_eq, SwP.dcBack_eq, SwP.ev_call, SwP.kBi, SwP.ev_len, SwP.ev_tuple, SwP.ev_list, SwP.ev_sorted, SwP.ev_sum, SwP.ev_repr, SwP.ev_isinst, SwP.ev_max, SwP.ev_min, SwP.ev_set, SwP.ev_int, SwP.kMtV2, SwP.kMtV, SwP.mtAt_t, SwP.mtAt_f, SwP.kMtS_eq, SwP.ev_mt, SwP.ev_lc, SwP.ev_col, SwP.kCol, SwP.evs_nil, SwP.evs_cons, SwP.kEvs, SwP.kEvs2, SwP.evt_nil, SwP.evt_cons, SwP.kEvt, SwP.kEvt2, SwP.evo_nil, SwP.evo_c, SwP.evo_v, SwP.evo_op, SwP.evo_neg, SwP.evo_call, SwP.kBd, SwP.evi_range, SwP.evi_zip, SwP.evi_enum, SwP.evi_rev, SwP.evi_v, SwP.evi_c, SwP.evi_ix, SwP.evi_sl, SwP.evi_tup, SwP.evi_lst, SwP.evi_call, SwP.evi_op, SwP.evi_rv, SwP.evi_lc, SwP.evi_sorted, SwP.kSeqOf, SwP.kWalk, SwP.eva_nil, SwP.eva_v, SwP.eva_c, SwP.eva_op, SwP.eva_neg, SwP.eva_ix, SwP.eva_sl, SwP.eva_rv, SwP.eva_tup, SwP.eva_lst, SwP.eva_call, SwP.eva_bi, SwP.eva_lc, SwP.eva_col, SwP.eva_ite, SwP.eva_mt, SwP.kAg, SwP.kAg2, SwP.kAgD, SwP.kAgM, SwP.agM2_mu, SwP.agV_mu, SwP.agV_im, SwP.agV_fz, SwP.sx_skip, SwP.sx_seq, SwP.kSeq_nx, SwP.kSeq_rt, SwP.kSeq_bk, SwP.kSeq_ct, SwP.kPut, SwP.kGive, SwP.sx_asgN, SwP.sx_asgT, SwP.kSix, SwP.kSix2, SwP.sixAt_t, SwP.sx_six, SwP.kSwp, SwP.kSwp2, SwP.kSwp4, SwP.kSwp5, SwP.swpAt_t, SwP.sx_swp, SwP.augP_s, SwP.kAug2_int, SwP.kAug, SwP.sx_aug, SwP.kEx, SwP.sx_ex, SwP.kRet, SwP.sx_retv, SwP.sx_ite, SwP.kIte_t, SwP.kIte_f, SwP.sx_for, SwP.sx_wh, SwP.sx_brk, SwP.sx_cont, SwP.rt_c, SwP.rt_op, SwP.rt_cmp, SwP.rt_chain, SwP.rt_neg, SwP.rt_no, SwP.rt_an, SwP.rt_oo, SwP.rt_ite, SwP.rt_tup, SwP.rt_lst, SwP.rt_ix, SwP.rt_sl, SwP.rt_rv, SwP.rt_call, SwP.rt_bi, SwP.rt_mt, SwP.rt_lc, SwP.rt_col, SwP.fr_im, SwP.fr_un, SwP.fr_mu, SwP.canSet_zero, SwP.canSet_succ, SwP.put_eq, SwP.putIf_t, SwP.putF_s, SwP.setW_zero, SwP.setW_succ, SwP.ofT_im, SwP.ofT_nu, SwP.rdV_eq, SwP.rdW_im, SwP.rdW_fz, SwP.rdW_l, SwP.rdW_s, SwP.rdW_kf, SwP.rdW_kt, SwP.isMu_eq, SwP.isMuW_l, SwP.isMuW_pop, SwP.isMuW_ix, SwP.isMuW_lix, SwP.isMuW_add, SwP.isMuW_im, SwP.isMuW_fz, SwP.storeAt_im, SwP.storeW_0, SwP.storeW_1, SwP.aug_add, SwP.aug_sub, SwP.retV_m, SwP.retV_im, SwP.retV_mt, SwP.retV_fz, SwP.agsOk_nil, SwP.agsOk_n, SwP.agsOk_s, SwP.ws_nil, SwP.ws_cons, SwP.gb_nil, SwP.gb_n, SwP.gb_s, SwP.gbW_m, SwP.gbW_fT, SwP.gbW_fF, SwP.give_n, SwP.give_t, SwP.give_l, SwP.give_p, SwP.gives_nil, SwP.gives_cons, SwP.givesK_s, SwP.wipe_nil, SwP.wipe_cons, SwP.unw_nil, SwP.unw_cons, SwP.b_add, SwP.b_sub, SwP.b_mul, SwP.mulOk_l, SwP.mulOk_r, SwP.b_fdiv, SwP.b_mod, SwP.b_pow18, SwP.c_lt, SwP.c_le, SwP.c_gt, SwP.c_ge, SwP.c_eqI, SwP.c_neI, SwP.c_isN, SwP.c_isnN, SwP.t_bl, SwP.t_int, SwP.t_tup, SwP.t_lst, SwP.t_nu, SwP.t_non, SwP.d_im, SwP.d_nu, SwP.intOf_i, SwP.seq_t, SwP.seq_l, SwP.seq_n, SwP.ix_t, SwP.ix_l, SwP.ix_n, SwP.atIx_0, SwP.atIx_1, SwP.atIx_2, SwP.atIx_m1, SwP.sl_t, SwP.sl_l, SwP.sl_n, SwP.rv_t, SwP.rv_l, SwP.rv_n, SwP.int_b, SwP.int_i, SwP.len_t, SwP.len_l, SwP.len_n, SwP.tuple_t, SwP.tuple_l, SwP.tuple_n, SwP.list_t, SwP.list_l, SwP.list_n, SwP.max_i, SwP.min_i, SwP.isi_ii, SwP.isi_ib, SwP.isi_bb, SwP.isi_tt, SwP.w_range, SwP.w_zipT, SwP.w_zipL, SwP.w_enumT, SwP.w_enumL, SwP.w_revT, List.getElem?_cons_zero, List.getElem?_cons_succ, List.contains_nil, List.contains_cons, Bool.not_true, Bool.not_false, Bool.true_and, Bool.and_true, Bool.false_or, Bool.or_false, List.getD_cons_zero, List.getD_cons_succ, Option.map_some, Int.reduceNeg, Nat.reduceLT, Nat.reduceLeDiff, Int.reduceLT, Int.reduceLE, Int.reduceEq, Int.reduceAdd, Int.reduceSub, Int.reduceMul, Nat.reduceAdd, Nat.reduceBEq, Nat.reduceEqDiff, decide_true, decide_false, SwP.mkTup_eq, SwP.mkLst_eq, SwP.b_addT, SwP.b_addNN, SwP.b_addIN, SwP.b_addNI, SwP.mt_append, SwP.mt_popAt, SwP.mt_pop, SwP.col_t, SwP.col_l, List.length_cons, List.length_nil, SwP.nums_len, SwP.prs_len, SwP.upto_len, SL, SwP.range_1, SwP.sorted_prs, SwP.sorted_prsI, SwP.lcIf_nil, SwP.lcIf_no, SwP.lcIf_cmp, SwP.lcIf_chain, SwP.lcIf_an, SwP.lcIf_oo, SwP.lcIf_call, SwP.c_neNN, SwP.c_eqNN, SwP.cut_takeI, SwP.cut_dropI, SwP.cut_m1, Int.reduceToNat, eq_self, Int.neg_neg, Int.toNat_natCast, wr_ok]
    exact ⟨us, di, rfl, ⟨hl, hk⟩, rfl, hdi⟩
end SwK

set_option linter.all false
set_option maxRecDepth 100000
namespace SwK
open Sw SwP
/-- where a thing at x stands behind a stage -/
def acr : List (Nat × Nat) → List Nat → Nat → Nat
  | p :: s, k :: w, x => if k = 1 ∧ (x = p.1 ∨ x = p.2) then p.1 + p.2 - x else acr s w x
  | _, _, x => x
def way : List (List (Nat × Nat)) → List (List Nat) → Nat → List Nat
  | s :: sts, w :: ws, x => x :: way sts ws (acr s w x)
  | _, _, x => [x]
theorem zip_prs : ∀ {s : List (Nat × Nat)} {w : List Nat}, List.zipWith (fun a b => D.pr [a, b]) (prs s) (nums w) = (s.zip w).map fun q => D.pr [.tup [.int (q.1.1 : Int), .int (q.1.2 : Int)], .int (q.2 : Int)]
  | [], _ => rfl
  | _ :: _, [] => rfl
  | p :: s, k :: w => by
    rw [prs_cons, nums_cons, List.zipWith_cons_cons, zip_prs]
    rfl
theorem zip_stg : ∀ {sts : List (List (Nat × Nat))} {ws : List (List Nat)}, List.zipWith (fun a b => D.pr [a, b]) (stg sts) (wys ws) = (sts.zip ws).map fun q => D.pr [.tup (prs q.1), .tup (nums q.2)]
  | [], _ => rfl
  | _ :: _, [] => rfl
  | s :: sts, w :: ws => by
    have := zip_stg (sts := sts) (ws := ws)
    unfold stg wys at *
    simp only [List.map_cons, List.zipWith_cons_cons, List.zip_cons_cons, this]
theorem acr_skip {p : Nat × Nat} {k x : Nat} {s : List (Nat × Nat)} {w : List Nat} (h : ¬ (k = 1 ∧ (x = p.1 ∨ x = p.2))) : acr (p :: s) (k :: w) x = acr s w x := by rw [acr, if_neg h]
theorem acr_hit {p : Nat × Nat} {k x : Nat} {s : List (Nat × Nat)} {w : List Nat} (h : k = 1 ∧ (x = p.1 ∨ x = p.2)) : acr (p :: s) (k :: w) x = p.1 + p.2 - x := by rw [acr, if_pos h]
theorem acr_zip : ∀ {s : List (Nat × Nat)} {w : List Nat} {x : Nat}, acr s w x = acr ((s.zip w).map (·.1)) ((s.zip w).map (·.2)) x
  | [], _, x => by cases ‹List Nat› <;> rfl
  | _ :: _, [], x => rfl
  | p :: s, k :: w, x => by
    simp only [List.zip_cons_cons, List.map_cons, acr]
    rw [acr_zip (s := s) (w := w)]
theorem acrossB (n : Nat) {s : List (Nat × Nat)} {w : List Nat} {x : Nat} : callD prog (n + 1) 8 [.im (.tup (prs s)), .im (.tup (nums w)), .im (.int (x : Int))] = some (some (.im (.int (acr s w x : Int)), [.im (.tup (prs s)), .im (.tup (nums w)), .im (.int (x : Int))])) := by
  obtain ⟨t, ws, e, h1, h2⟩ : Calls (callD prog (n + 1)) 8 [.im (.tup (prs s)), .im (.tup (nums w)), .im (.int (x : Int))] fun t ws => t = .im (.int (acr s w x : Int)) ∧ ws = [.im (.tup (prs s)), .im (.tup (nums w)), .im (.int (x : Int))] := by
    refine calls_of (fn := f_l_across) rfl rfl ?_
    show WR (sx _ f_l_across.body [.im (.tup (prs s)), .im (.tup (nums w)), .im (.int (x : Int)), .un, .un]) _
    unfold f_l_across
    simp -implicitDefEqProofs only [SwP.bnd_ok, SwP.bnd_bad, SwP.rof_some, SwP.ev_c, SwP.ev_v, SwP.kOp2, SwP.kOp, SwP.ev_op, SwP.kCmp2, SwP.kCmp, SwP.ev_cmp, SwP.cmpR_eq, SwP.mapB, SwP.mapD, SwP.mapO, SwP.kChain, SwP.kChain2, SwP.kChain3, SwP.kChain4, SwP.ev_chain, SwP.kNeg, SwP.ev_neg, SwP.tst_eq, SwP.kTru, SwP.kNo, SwP.ev_no, SwP.kAn, SwP.kAn2, SwP.ev_an, SwP.kOo, SwP.kOo2, SwP.ev_oo, SwP.kIfE, SwP.ev_ite, SwP.ev_tup, SwP.ev_lst, SwP.kIx, SwP.kIx2, SwP.ev_ix, SwP.kSl, SwP.kSl2, SwP.kSl3, SwP.ev_sl, SwP.kRv, SwP.ev_rv, SwP.kCall_eq, SwP.dcIf_t, SwP.dcAt_eq, SwP.dcBack_eq, SwP.ev_call, SwP.kBi, SwP.ev_len, SwP.ev_tuple, SwP.ev_list, SwP.ev_sorted, SwP.ev_sum, SwP.ev_repr, SwP.ev_isinst, SwP.ev_max, SwP.ev_min, SwP.ev_set, SwP.ev_int, SwP.kMtV2, SwP.kMtV, SwP.mtAt_t, SwP.mtAt_f, SwP.kMtS_eq, SwP.ev_mt, SwP.ev_lc, SwP.ev_col, SwP.kCol, SwP.evs_nil, SwP.evs_cons, SwP.kEvs, SwP.kEvs2, SwP.evt_nil, SwP.evt_cons, SwP.kEvt, SwP.kEvt2, SwP.evo_nil, SwP.evo_c, SwP.evo_v, SwP.evo_op, SwP.evo_neg, SwP.evo_call, SwP.kBd, SwP.evi_range, SwP.evi_zip, SwP.evi_enum, SwP.evi_rev, SwP.evi_v, SwP.evi_c, SwP.evi_ix, SwP.evi_sl, SwP.evi_tup, SwP.evi_lst, SwP.evi_call, SwP.evi_op, SwP.evi_rv, SwP.evi_lc, SwP.evi_sorted, SwP.kSeqOf, SwP.kWalk, SwP.eva_nil, SwP.eva_v, SwP.eva_c, SwP.eva_op, SwP.eva_neg, SwP.eva_ix, SwP.eva_sl, SwP.eva_rv, SwP.eva_tup, SwP.eva_lst, SwP.eva_call, SwP.eva_bi, SwP.eva_lc, SwP.eva_col, SwP.eva_ite, SwP.eva_mt, SwP.kAg, SwP.kAg2, SwP.kAgD, SwP.kAgM, SwP.agM2_mu, SwP.agV_mu, SwP.agV_im, SwP.agV_fz, SwP.sx_skip, SwP.sx_seq, SwP.kSeq_nx, SwP.kSeq_rt, SwP.kSeq_bk, SwP.kSeq_ct, SwP.kPut, SwP.kGive, SwP.sx_asgN, SwP.sx_asgT, SwP.kSix, SwP.kSix2, SwP.sixAt_t, SwP.sx_six, SwP.kSwp, SwP.kSwp2, SwP.kSwp4, SwP.kSwp5, SwP.swpAt_t, SwP.sx_swp, SwP.augP_s, SwP.kAug2_int, SwP.kAug, SwP.sx_aug, SwP.kEx, SwP.sx_ex, SwP.kRet, SwP.sx_retv, SwP.sx_ite, SwP.kIte_t, SwP.kIte_f, SwP.sx_for, SwP.sx_wh, SwP.sx_brk, SwP.sx_cont, SwP.rt_c, SwP.rt_op, SwP.rt_cmp, SwP.rt_chain, SwP.rt_neg, SwP.rt_no, SwP.rt_an, SwP.rt_oo, SwP.rt_ite, SwP.rt_tup, SwP.rt_lst, SwP.rt_ix, SwP.rt_sl, SwP.rt_rv, SwP.rt_call, SwP.rt_bi, SwP.rt_mt, SwP.rt_lc, SwP.rt_col, SwP.fr_im, SwP.fr_un, SwP.fr_mu, SwP.canSet_zero, SwP.canSet_succ, SwP.put_eq, SwP.putIf_t, SwP.putF_s, SwP.setW_zero, SwP.setW_succ, SwP.ofT_im, SwP.ofT_nu, SwP.rdV_eq, SwP.rdW_im, SwP.rdW_fz, SwP.rdW_l, SwP.rdW_s, SwP.rdW_kf, SwP.rdW_kt, SwP.isMu_eq, SwP.isMuW_l, SwP.isMuW_pop, SwP.isMuW_ix, SwP.isMuW_lix, SwP.isMuW_add, SwP.isMuW_im, SwP.isMuW_fz, SwP.storeAt_im, SwP.storeW_0, SwP.storeW_1, SwP.aug_add, SwP.aug_sub, SwP.retV_m, SwP.retV_im, SwP.retV_mt, SwP.retV_fz, SwP.agsOk_nil, SwP.agsOk_n, SwP.agsOk_s, SwP.ws_nil, SwP.ws_cons, SwP.gb_nil, SwP.gb_n, SwP.gb_s, SwP.gbW_m, SwP.gbW_fT, SwP.gbW_fF, SwP.give_n, SwP.give_t, SwP.give_l, SwP.give_p, SwP.gives_nil, SwP.gives_cons, SwP.givesK_s, SwP.wipe_nil, SwP.wipe_cons, SwP.unw_nil, SwP.unw_cons, SwP.b_add, SwP.b_sub, SwP.b_mul, SwP.mulOk_l, SwP.mulOk_r, SwP.b_fdiv, SwP.b_mod, SwP.b_pow18, SwP.c_lt, SwP.c_le, SwP.c_gt, SwP.c_ge, SwP.c_eqI, SwP.c_neI, SwP.c_isN, SwP.c_isnN, SwP.t_bl, SwP.t_int, SwP.t_tup, SwP.t_lst, SwP.t_nu, SwP.t_non, SwP.d_im, SwP.d_nu, SwP.intOf_i, SwP.seq_t, SwP.seq_l, SwP.seq_n, SwP.ix_t, SwP.ix_l, SwP.ix_n, SwP.atIx_0, SwP.atIx_1, SwP.atIx_2, SwP.atIx_m1, SwP.sl_t, SwP.sl_l, SwP.sl_n, SwP.rv_t, SwP.rv_l, SwP.rv_n, SwP.int_b, SwP.int_i, SwP.len_t, SwP.len_l, SwP.len_n, SwP.tuple_t, SwP.tuple_l, SwP.tuple_n, SwP.list_t, SwP.list_l, SwP.list_n, SwP.max_i, SwP.min_i, SwP.isi_ii, SwP.isi_ib, SwP.isi_bb, SwP.isi_tt, SwP.w_range, SwP.w_zipT, SwP.w_zipL, SwP.w_enumT, SwP.w_enumL, SwP.w_revT, List.getElem?_cons_zero, List.getElem?_cons_succ, List.contains_nil, List.contains_cons, Bool.not_true, Bool.not_false, Bool.true_and, Bool.and_true, Bool.false_or, Bool.or_false, List.getD_cons_zero, List.getD_cons_succ, Option.map_some, Int.reduceNeg, Nat.reduceLT, Nat.reduceLeDiff, Int.reduceLT, Int.reduceLE, Int.reduceEq, Int.reduceAdd, Int.reduceSub, Int.reduceMul, Nat.reduceAdd, Nat.reduceBEq, Nat.reduceEqDiff, decide_true, decide_false, SwP.mkTup_eq, SwP.mkLst_eq, SwP.b_addT, SwP.b_addNN, SwP.b_addIN, SwP.b_addNI, SwP.mt_append, SwP.mt_popAt, SwP.mt_pop, SwP.col_t, SwP.col_l, List.length_cons, List.length_nil, SwP.nums_len, SwP.prs_len, SwP.upto_len, SL, SwP.range_1, SwP.sorted_prs, SwP.sorted_prsI, SwP.lcIf_nil, SwP.lcIf_no, SwP.lcIf_cmp, SwP.lcIf_chain, SwP.lcIf_an, SwP.lcIf_oo, SwP.lcIf_call, SwP.c_neNN, SwP.c_eqNN, SwP.cut_takeI, SwP.cut_dropI, SwP.cut_m1, Int.reduceToNat, eq_self, Int.neg_neg, Int.toNat_natCast, zip_prs]
    simp only [wr_bnd]
    refine wr_for (I := fun i env => ∃ w3 w4, env = [.im (.tup (prs s)), .im (.tup (nums w)), .im (.int (x : Int)), w3, w4] ∧ fr w3 = true ∧ fr w4 = true ∧ acr s w x = acr (((s.zip w).drop i).map (·.1)) (((s.zip w).drop i).map (·.2)) x) ⟨_, _, rfl, rfl, rfl, by rw [List.drop_zero]; exact acr_zip⟩ ?_ ?_
    · rintro i hi env ⟨w3, w4, rfl, f3, f4, ha⟩
      have hi' : i < (s.zip w).length := by simpa using hi
      obtain ⟨⟨⟨a, b⟩, k⟩, hq⟩ : ∃ q, q = (s.zip w)[i] := ⟨_, rfl⟩
      have hg : ((s.zip w).map fun q => D.pr [.tup [.int (q.1.1 : Int), .int (q.1.2 : Int)], .int (q.2 : Int)])[i] = .pr [.tup [.int (a : Int), .int (b : Int)], .int (k : Int)] := by
        rw [List.getElem_map, ← hq]
      have hab : [D.int (a : Int), D.int (b : Int)] = nums [a, b] := rfl
      have hdr : (s.zip w).drop i = ((a, b), k) :: (s.zip w).drop (i + 1) := by
        rw [hq]
        exact List.drop_eq_getElem_cons hi'
      rw [hdr] at ha
      refine ⟨_, by rw [hg]; simp -implicitDefEqProofs only [SwP.bnd_ok, SwP.bnd_bad, SwP.rof_some, SwP.ev_c, SwP.ev_v, SwP.kOp2, SwP.kOp, SwP.ev_op, SwP.kCmp2, SwP.kCmp, SwP.ev_cmp, SwP.cmpR_eq, SwP.mapB, SwP.mapD, SwP.mapO, SwP.kChain, SwP.kChain2, SwP.kChain3, SwP.kChain4, SwP.ev_chain, SwP.kNeg, SwP.ev_neg, SwP.tst_eq, SwP.kTru, SwP.kNo, SwP.ev_no, SwP.kAn, SwP.kAn2, SwP.ev_an, SwP.kOo, SwP.kOo2, SwP.ev_oo, SwP.kIfE, SwP.ev_ite, SwP.ev_tup, SwP.ev_lst, SwP.kIx, SwP.kIx2, SwP.ev_ix, SwP.kSl, SwP.kSl2, SwP.kSl3, SwP.ev_sl, SwP.kRv, SwP.ev_rv, SwP.kCall_eq, SwP.dcIf_t, SwP.dcAt_eq, SwP.dcBack_eq, SwP.ev_call, SwP.kBi, SwP.ev_len, SwP.ev_tuple, SwP.ev_list, SwP.ev_sorted, SwP.ev_sum, SwP.ev_repr, SwP.ev_isinst, SwP.ev_max, SwP.ev_min, SwP.ev_set, SwP.ev_int, SwP.kMtV2, SwP.kMtV, SwP.mtAt_t, SwP.mtAt_f, SwP.kMtS_eq, SwP.ev_mt, SwP.ev_lc, SwP.ev_col, SwP.kCol, SwP.evs_nil, SwP.evs_cons, SwP.kEvs, SwP.kEvs2, SwP.evt_nil, SwP.evt_cons, SwP.kEvt, SwP.kEvt2, SwP.evo_nil, SwP.evo_c, SwP.evo_v, SwP.evo_op, SwP.evo_neg, SwP.evo_call, SwP.kBd, SwP.evi_range, SwP.evi_zip, SwP.evi_enum, SwP.evi_rev, SwP.evi_v, SwP.evi_c, SwP.evi_ix, SwP.evi_sl, SwP.evi_tup, SwP.evi_lst, SwP.evi_call, SwP.evi_op, SwP.evi_rv, SwP.evi_lc, SwP.evi_sorted, SwP.kSeqOf, SwP.kWalk, SwP.eva_nil, SwP.eva_v, SwP.eva_c, SwP.eva_op, SwP.eva_neg, SwP.eva_ix, SwP.eva_sl, SwP.eva_rv, SwP.eva_tup, SwP.eva_lst, SwP.eva_call, SwP.eva_bi, SwP.eva_lc, SwP.eva_col, SwP.eva_ite, SwP.eva_mt, SwP.kAg, SwP.kAg2, SwP.kAgD, SwP.kAgM, SwP.agM2_mu, SwP.agV_mu, SwP.agV_im, SwP.agV_fz, SwP.sx_skip, SwP.sx_seq, SwP.kSeq_nx, SwP.kSeq_rt, SwP.kSeq_bk, SwP.kSeq_ct, SwP.kPut, SwP.kGive, SwP.sx_asgN, SwP.sx_asgT, SwP.kSix, SwP.kSix2, SwP.sixAt_t, SwP.sx_six, SwP.kSwp, SwP.kSwp2, SwP.kSwp4, SwP.kSwp5, SwP.swpAt_t, SwP.sx_swp, SwP.augP_s, SwP.kAug2_int, SwP.kAug, SwP.sx_aug, SwP.kEx, SwP.sx_ex, SwP.kRet, SwP.sx_retv, SwP.sx_ite, SwP.kIte_t, SwP.kIte_f, SwP.sx_for, SwP.sx_wh, SwP.sx_brk, SwP.sx_cont, SwP.rt_c, SwP.rt_op, SwP.rt_cmp, SwP.rt_chain, SwP.rt_neg, SwP.rt_no, SwP.rt_an, SwP.rt_oo, SwP.rt_ite, SwP.rt_tup, SwP.rt_lst, SwP.rt_ix, SwP.rt_sl, SwP.rt_rv, SwP.rt_call, SwP.rt_bi, SwP.rt_mt, SwP.rt_lc, SwP.rt_col, SwP.fr_im, SwP.fr_un, SwP.fr_mu, SwP.canSet_zero, SwP.canSet_succ, SwP.put_eq, SwP.putIf_t, SwP.putF_s, SwP.setW_zero, SwP.setW_succ, SwP.ofT_im, SwP.ofT_nu, SwP.rdV_eq, SwP.rdW_im, SwP.rdW_fz, SwP.rdW_l, SwP.rdW_s, SwP.rdW_kf, SwP.rdW_kt, SwP.isMu_eq, SwP.isMuW_l, SwP.isMuW_pop, SwP.isMuW_ix, SwP.isMuW_lix, SwP.isMuW_add, SwP.isMuW_im, SwP.isMuW_fz, SwP.storeAt_im, SwP.storeW_0, SwP.storeW_1, SwP.aug_add, SwP.aug_sub, SwP.retV_m, SwP.retV_im, SwP.retV_mt, SwP.retV_fz, SwP.agsOk_nil, SwP.agsOk_n, SwP.agsOk_s, SwP.ws_nil, SwP.ws_cons, SwP.gb_nil, SwP.gb_n, SwP.gb_s, SwP.gbW_m, SwP.gbW_fT, SwP.gbW_fF, SwP.give_n, SwP.give_t, SwP.give_l, SwP.give_p, SwP.gives_nil, SwP.gives_cons, SwP.givesK_s, SwP.wipe_nil, SwP.wipe_cons, SwP.unw_nil, SwP.unw_cons, SwP.b_add, SwP.b_sub, SwP.b_mul, SwP.mulOk_l, SwP.mulOk_r, SwP.b_fdiv, SwP.b_mod, SwP.b_pow18, SwP.c_lt, SwP.c_le, SwP.c_gt, SwP.c_ge, SwP.c_eqI, SwP.c_neI, SwP.c_isN, SwP.c_isnN, SwP.t_bl, SwP.t_int, SwP.t_tup, SwP.t_lst, SwP.t_nu, SwP.t_non, SwP.d_im, SwP.d_nu, SwP.intOf_i, SwP.seq_t, SwP.seq_l, SwP.seq_n, SwP.ix_t, SwP.ix_l, SwP.ix_n, SwP.atIx_0, SwP.atIx_1, SwP.atIx_2, SwP.atIx_m1, SwP.sl_t, SwP.sl_l, SwP.sl_n, SwP.rv_t, SwP.rv_l, SwP.rv_n, SwP.int_b, SwP.int_i, SwP.len_t, SwP.len_l, SwP.len_n, SwP.tuple_t, SwP.tuple_l, SwP.tuple_n, SwP.list_t, SwP.list_l, SwP.list_n, SwP.max_i, SwP.min_i, SwP.isi_ii, SwP.isi_ib, SwP.isi_bb, SwP.isi_tt, SwP.w_range, SwP.w_zipT, SwP.w_zipL, SwP.w_enumT, SwP.w_enumL, SwP.w_revT, List.getElem?_cons_zero, List.getElem?_cons_succ, List.contains_nil, List.contains_cons, Bool.not_true, Bool.not_false, Bool.true_and, Bool.and_true, Bool.false_or, Bool.or_false, List.getD_cons_zero, List.getD_cons_succ, Option.map_some, Int.reduceNeg, Nat.reduceLT, Nat.reduceLeDiff, Int.reduceLT, Int.reduceLE, Int.reduceEq, Int.reduceAdd, Int.reduceSub, Int.reduceMul, Nat.reduceAdd, Nat.reduceBEq, Nat.reduceEqDiff, decide_true, decide_false, SwP.mkTup_eq, SwP.mkLst_eq, SwP.b_addT, SwP.b_addNN, SwP.b_addIN, SwP.b_addNI, SwP.mt_append, SwP.mt_popAt, SwP.mt_pop, SwP.col_t, SwP.col_l, List.length_cons, List.length_nil, SwP.nums_len, SwP.prs_len, SwP.upto_len, SL, SwP.range_1, SwP.sorted_prs, SwP.sorted_prsI, SwP.lcIf_nil, SwP.lcIf_no, SwP.lcIf_cmp, SwP.lcIf_chain, SwP.lcIf_an, SwP.lcIf_oo, SwP.lcIf_call, SwP.c_neNN, SwP.c_eqNN, SwP.cut_takeI, SwP.cut_dropI, SwP.cut_m1, Int.reduceToNat, eq_self, Int.neg_neg, Int.toNat_natCast, f3, f4]; rfl, ?_⟩
      have hin : cmpop .inn (.im (.int (x : Int))) (.im (.tup [.int (a : Int), .int (b : Int)])) = some (decide (x ∈ [a, b])) := c_inT (l := [a, b])
      have hsum : bifn .sum [.im (.tup [.int (a : Int), .int (b : Int)])] = some (.im (.int ((a : Int) + (b : Int)))) := by
        show some (T.im (.int ([(a : Int), (b : Int)].sum))) = _
        simp
      by_cases hk : (k : Int) = 1
      · by_cases hx : x ∈ [a, b]
        · simp -implicitDefEqProofs only [SwP.bnd_ok, SwP.bnd_bad, SwP.rof_some, SwP.ev_c, SwP.ev_v, SwP.kOp2, SwP.kOp, SwP.ev_op, SwP.kCmp2, SwP.kCmp, SwP.ev_cmp, SwP.cmpR_eq, SwP.mapB, SwP.mapD, SwP.mapO, SwP.kChain, SwP.kChain2, SwP.kChain3, SwP.kChain4, SwP.ev_chain, SwP.kNeg, SwP.ev_neg, SwP.tst_eq, SwP.kTru, SwP.kNo, SwP.ev_no, SwP.kAn, SwP.kAn2, SwP.ev_an, SwP.kOo, SwP.kOo2, SwP.ev_oo, SwP.kIfE, SwP.ev_ite, SwP.ev_tup, SwP.ev_lst, SwP.kIx, SwP.kIx2, SwP.ev_ix, SwP.kSl, SwP.kSl2, SwP.kSl3, SwP.ev_sl, SwP.kRv, SwP.ev_rv, SwP.kCall_eq, SwP.dcIf_t, SwP.dcAt_eq, SwP.dcBack_eq, SwP.ev_call, SwP.kBi, SwP.ev_len, SwP.ev_tuple, SwP.ev_list, SwP.ev_sorted, SwP.ev_sum, SwP.ev_repr, SwP.ev_isinst, SwP.ev_max, SwP.ev_min, SwP.ev_set, SwP.ev_int, SwP.kMtV2, SwP.kMtV, SwP.mtAt_t, SwP.mtAt_f, SwP.kMtS_eq, SwP.ev_mt, SwP.ev_lc, SwP.ev_col, SwP.kCol, SwP.evs_nil, SwP.evs_cons, SwP.kEvs, SwP.kEvs2, SwP.evt_nil, SwP.evt_cons, SwP.kEvt, SwP.kEvt2, SwP.evo_nil, SwP.evo_c, SwP.evo_v, SwP.evo_op, SwP.evo_neg, SwP.evo_call, SwP.kBd, SwP.evi_range, SwP.evi_zip, SwP.evi_enum, SwP.evi_rev, SwP.evi_v, SwP.evi_c, SwP.evi_ix, SwP.evi_sl, SwP.evi_tup, SwP.evi_lst, SwP.evi_call, SwP.evi_op, SwP.evi_rv, SwP.evi_lc, SwP.evi_sorted, SwP.kSeqOf, SwP.kWalk, SwP.eva_nil, SwP.eva_v, SwP.eva_c, SwP.eva_op, SwP.eva_neg, SwP.eva_ix, SwP.eva_sl, SwP.eva_rv, SwP.eva_tup, SwP.eva_lst, SwP.eva_call, SwP.eva_bi, SwP.eva_lc, SwP.eva_col, SwP.eva_ite, SwP.eva_mt, SwP.kAg, SwP.kAg2, SwP.kAgD, SwP.kAgM, SwP.agM2_mu, SwP.agV_mu, SwP.agV_im, SwP.agV_fz, SwP.sx_skip, SwP.sx_seq, SwP.kSeq_nx, SwP.kSeq_rt, SwP.kSeq_bk, SwP.kSeq_ct, SwP.kPut, SwP.kGive, SwP.sx_asgN, SwP.sx_asgT, SwP.kSix, SwP.kSix2, SwP.sixAt_t, SwP.sx_six, SwP.kSwp, SwP.kSwp2, SwP.kSwp4, SwP.kSwp5, SwP.swpAt_t, SwP.sx_swp, SwP.augP_s, SwP.kAug2_int, SwP.kAug, SwP.sx_aug, SwP.kEx, SwP.sx_ex, SwP.kRet, SwP.sx_retv, SwP.sx_ite, SwP.kIte_t, SwP.kIte_f, SwP.sx_for, SwP.sx_wh, SwP.sx_brk, SwP.sx_cont, SwP.rt_c, SwP.rt_op, SwP.rt_cmp, SwP.rt_chain, SwP.rt_neg, SwP.rt_no, SwP.rt_an, SwP.rt_oo, SwP.rt_ite, SwP.rt_tup, SwP.rt_lst, SwP.rt_ix, SwP.rt_sl, SwP.rt_rv, SwP.rt_call, SwP.rt_bi, SwP.rt_mt, SwP.rt_lc, SwP.rt_col, SwP.fr_im, SwP.fr_un, SwP.fr_mu, SwP.canSet_zero, SwP.canSet_succ, SwP.put_eq, SwP.putIf_t, SwP.putF_s, SwP.setW_zero, SwP.setW_succ, SwP.ofT_im, SwP.ofT_nu, SwP.rdV_eq, SwP.rdW_im, SwP.rdW_fz, SwP.rdW_l, SwP.rdW_s, SwP.rdW_kf, SwP.rdW_kt, SwP.isMu_eq, SwP.isMuW_l, SwP.isMuW_pop, SwP.isMuW_ix, SwP.isMuW_lix, SwP.isMuW_add, SwP.isMuW_im, SwP.isMuW_fz, SwP.storeAt_im, SwP.storeW_0, SwP.storeW_1, SwP.aug_add, SwP.aug_sub, SwP.retV_m, SwP.retV_im, SwP.retV_mt, SwP.retV_fz, SwP.agsOk_nil, SwP.agsOk_n, SwP.agsOk_s, SwP.ws_nil, SwP.ws_cons, SwP.gb_nil, SwP.gb_n, SwP.gb_s, SwP.gbW_m, SwP.gbW_fT, SwP.gbW_fF, SwP.give_n, SwP.give_t, SwP.give_l, SwP.give_p, SwP.gives_nil, SwP.gives_cons, SwP.givesK_s, SwP.wipe_nil, SwP.wipe_cons, SwP.unw_nil, SwP.unw_cons, SwP.b_add, SwP.b_sub, SwP.b_mul, SwP.mulOk_l, SwP.mulOk_r, SwP.b_fdiv, SwP.b_mod, SwP.b_pow18, SwP.c_lt, SwP.c_le, SwP.c_gt, SwP.c_ge, SwP.c_eqI, SwP.c_neI, SwP.c_isN, SwP.c_isnN, SwP.t_bl, SwP.t_int, SwP.t_tup, SwP.t_lst, SwP.t_nu, SwP.t_non, SwP.d_im, SwP.d_nu, SwP.intOf_i, SwP.seq_t, SwP.seq_l, SwP.seq_n, SwP.ix_t, SwP.ix_l, SwP.ix_n, SwP.atIx_0, SwP.atIx_1, SwP.atIx_2, SwP.atIx_m1, SwP.sl_t, SwP.sl_l, SwP.sl_n, SwP.rv_t, SwP.rv_l, SwP.rv_n, SwP.int_b, SwP.int_i, SwP.len_t, SwP.len_l, SwP.len_n, SwP.tuple_t, SwP.tuple_l, SwP.tuple_n, SwP.list_t, SwP.list_l, SwP.list_n, SwP.max_i, SwP.min_i, SwP.isi_ii, SwP.isi_ib, SwP.isi_bb, SwP.isi_tt, SwP.w_range, SwP.w_zipT, SwP.w_zipL, SwP.w_enumT, SwP.w_enumL, SwP.w_revT, List.getElem?_cons_zero, List.getElem?_cons_succ, List.contains_nil, List.contains_cons, Bool.not_true, Bool.not_false, Bool.true_and, Bool.and_true, Bool.false_or, Bool.or_false, List.getD_cons_zero, List.getD_cons_succ, Option.map_some, Int.reduceNeg, Nat.reduceLT, Nat.reduceLeDiff, Int.reduceLT, Int.reduceLE, Int.reduceEq, Int.reduceAdd, Int.reduceSub, Int.reduceMul, Nat.reduceAdd, Nat.reduceBEq, Nat.reduceEqDiff, decide_true, decide_false, SwP.mkTup_eq, SwP.mkLst_eq, SwP.b_addT, SwP.b_addNN, SwP.b_addIN, SwP.b_addNI, SwP.mt_append, SwP.mt_popAt, SwP.mt_pop, SwP.col_t, SwP.col_l, List.length_cons, List.length_nil, SwP.nums_len, SwP.prs_len, SwP.upto_len, SL, SwP.range_1, SwP.sorted_prs, SwP.sorted_prsI, SwP.lcIf_nil, SwP.lcIf_no, SwP.lcIf_cmp, SwP.lcIf_chain, SwP.lcIf_an, SwP.lcIf_oo, SwP.lcIf_call, SwP.c_neNN, SwP.c_eqNN, SwP.cut_takeI, SwP.cut_dropI, SwP.cut_m1, Int.reduceToNat, eq_self, Int.neg_neg, Int.toNat_natCast, hk, hin, hx, hsum, wr_ok]
          have hx2 : x = a ∨ x = b := by simpa using hx
          have he : acr s w x = a + b - x := by
            rw [ha]
            exact acr_hit ⟨by show k = 1; omega, hx2⟩
          simp only [Turn, kSeq_rt, wr_ok]
          refine ⟨?_, rfl⟩
          rw [he]
          congr 2
          omega
        · simp -implicitDefEqProofs only [SwP.bnd_ok, SwP.bnd_bad, SwP.rof_some, SwP.ev_c, SwP.ev_v, SwP.kOp2, SwP.kOp, SwP.ev_op, SwP.kCmp2, SwP.kCmp, SwP.ev_cmp, SwP.cmpR_eq, SwP.mapB, SwP.mapD, SwP.mapO, SwP.kChain, SwP.kChain2, SwP.kChain3, SwP.kChain4, SwP.ev_chain, SwP.kNeg, SwP.ev_neg, SwP.tst_eq, SwP.kTru, SwP.kNo, SwP.ev_no, SwP.kAn, SwP.kAn2, SwP.ev_an, SwP.kOo, SwP.kOo2, SwP.ev_oo, SwP.kIfE, SwP.ev_ite, SwP.ev_tup, SwP.ev_lst, SwP.kIx, SwP.kIx2, SwP.ev_ix, SwP.kSl, SwP.kSl2, SwP.kSl3, SwP.ev_sl, SwP.kRv, SwP.ev_rv, SwP.kCall_eq, SwP.dcIf_t, SwP.dcAt_eq, SwP.dcBack_eq, SwP.ev_call, SwP.kBi, SwP.ev_len, SwP.ev_tuple, SwP.ev_list, SwP.ev_sorted, SwP.ev_sum, SwP.ev_repr, SwP.ev_isinst, SwP.ev_max, SwP.ev_min, SwP.ev_set, SwP.ev_int, SwP.kMtV2, SwP.kMtV, SwP.mtAt_t, SwP.mtAt_f, SwP.kMtS_eq, SwP.ev_mt, SwP.ev_lc, SwP.ev_col, SwP.kCol, SwP.evs_nil, SwP.evs_cons, SwP.kEvs, SwP.kEvs2, SwP.evt_nil, SwP.evt_cons, SwP.kEvt, SwP.kEvt2, SwP.evo_nil, SwP.evo_c, SwP.evo_v, SwP.evo_op, SwP.evo_neg, SwP.evo_call, SwP.kBd, SwP.evi_range, SwP.evi_zip, SwP.evi_enum, SwP.evi_rev, SwP.evi_v, SwP.evi_c, SwP.evi_ix, SwP.evi_sl, SwP.evi_tup, SwP.evi_lst, SwP.evi_call, SwP.evi_op, SwP.evi_rv, SwP.evi_lc, SwP.evi_sorted, SwP.kSeqOf, SwP.kWalk, SwP.eva_nil, SwP.eva_v, SwP.eva_c, SwP.eva_op, SwP.eva_neg, SwP.eva_ix, SwP.eva_sl, SwP.eva_rv, SwP.eva_tup, SwP.eva_lst, SwP.eva_call, SwP.eva_bi, SwP.eva_lc, SwP.eva_col, SwP.eva_ite, SwP.eva_mt, SwP.kAg, SwP.kAg2, SwP.kAgD, SwP.kAgM, SwP.agM2_mu, SwP.agV_mu, SwP.agV_im, SwP.agV_fz, SwP.sx_skip, SwP.sx_seq, SwP.kSeq_nx, SwP.kSeq_rt, SwP.kSeq_bk, SwP.kSeq_ct, SwP.kPut, SwP.kGive, SwP.sx_asgN, SwP.sx_asgT, SwP.kSix, SwP.kSix2, SwP.sixAt_t, SwP.sx_six, SwP.kSwp, SwP.kSwp2, SwP.kSwp4, SwP.kSwp5, SwP.swpAt_t, SwP.sx_swp, SwP.augP_s, SwP.kAug2_int, SwP.kAug, SwP.sx_aug, SwP.kEx, SwP.sx_ex, SwP.kRet, SwP.sx_retv, SwP.sx_ite, SwP.kIte_t, SwP.kIte_f, SwP.sx_for, SwP.sx_wh, SwP.sx_brk, SwP.sx_cont, SwP.rt_c, SwP.rt_op, SwP.rt_cmp, SwP.rt_chain, SwP.rt_neg, SwP.rt_no, SwP.rt_an, SwP.rt_oo, SwP.rt_ite, SwP.rt_tup, SwP.rt_lst, SwP.rt_ix, SwP.rt_sl, SwP.rt_rv, SwP.rt_call, SwP.rt_bi, SwP.rt_mt, SwP.rt_lc, SwP.rt_col, SwP.fr_im, SwP.fr_un, SwP.fr_mu, SwP.canSet_zero, SwP.canSet_succ, SwP.put_eq, SwP.putIf_t, SwP.putF_s, SwP.setW_zero, SwP.setW_succ, SwP.ofT_im, SwP.ofT_nu, SwP.rdV_eq, SwP.rdW_im, SwP.rdW_fz, SwP.rdW_l, SwP.rdW_s, SwP.rdW_kf, SwP.rdW_kt, SwP.isMu_eq, SwP.isMuW_l, SwP.isMuW_pop, SwP.isMuW_ix, SwP.isMuW_lix, SwP.isMuW_add, SwP.isMuW_im, SwP.isMuW_fz, SwP.storeAt_im, SwP.storeW_0, SwP.storeW_1, SwP.aug_add, SwP.aug_sub, SwP.retV_m, SwP.retV_im, SwP.retV_mt, SwP.retV_fz, SwP.agsOk_nil, SwP.agsOk_n, SwP.agsOk_s, SwP.ws_nil, SwP.ws_cons, SwP.gb_nil, SwP.gb_n, SwP.gb_s, SwP.gbW_m, SwP.gbW_fT, SwP.gbW_fF, SwP.give_n, SwP.give_t, SwP.give_l, SwP.give_p, SwP.gives_nil, SwP.gives_cons, SwP.givesK_s, SwP.wipe_nil, SwP.wipe_cons, SwP.unw_nil, SwP.unw_cons, SwP.b_add, SwP.b_sub, SwP.b_mul, SwP.mulOk_l, SwP.mulOk_r, SwP.b_fdiv, SwP.b_mod, SwP.b_pow18, SwP.c_lt, SwP.c_le, SwP.c_gt, SwP.c_ge, SwP.c_eqI, SwP.c_neI, SwP.c_isN, SwP.c_isnN, SwP.t_bl, SwP.t_int, SwP.t_tup, SwP.t_lst, SwP.t_nu, SwP.t_non, SwP.d_im, SwP.d_nu, SwP.intOf_i, SwP.seq_t, SwP.seq_l, SwP.seq_n, SwP.ix_t, SwP.ix_l, SwP.ix_n, SwP.atIx_0, SwP.atIx_1, SwP.atIx_2, SwP.atIx_m1, SwP.sl_t, SwP.sl_l, SwP.sl_n, SwP.rv_t, SwP.rv_l, SwP.rv_n, SwP.int_b, SwP.int_i, SwP.len_t, SwP.len_l, SwP.len_n, SwP.tuple_t, SwP.tuple_l, SwP.tuple_n, SwP.list_t, SwP.list_l, SwP.list_n, SwP.max_i, SwP.min_i, SwP.isi_ii, SwP.isi_ib, SwP.isi_bb, SwP.isi_tt, SwP.w_range, SwP.w_zipT, SwP.w_zipL, SwP.w_enumT, SwP.w_enumL, SwP.w_revT, List.getElem?_cons_zero, List.getElem?_cons_succ, List.contains_nil, List.contains_cons, Bool.not_true, Bool.not_false, Bool.true_and, Bool.and_true, Bool.false_or, Bool.or_false, List.getD_cons_zero, List.getD_cons_succ, Option.map_some, Int.reduceNeg, Nat.reduceLT, Nat.reduceLeDiff, Int.reduceLT, Int.reduceLE, Int.reduceEq, Int.reduceAdd, Int.reduceSub, Int.reduceMul, Nat.reduceAdd, Nat.reduceBEq, Nat.reduceEqDiff, decide_true, decide_false, SwP.mkTup_eq, SwP.mkLst_eq, SwP.b_addT, SwP.b_addNN, SwP.b_addIN, SwP.b_addNI, SwP.mt_append, SwP.mt_popAt, SwP.mt_pop, SwP.col_t, SwP.col_l, List.length_cons, List.length_nil, SwP.nums_len, SwP.prs_len, SwP.upto_len, SL, SwP.range_1, SwP.sorted_prs, SwP.sorted_prsI, SwP.lcIf_nil, SwP.lcIf_no, SwP.lcIf_cmp, SwP.lcIf_chain, SwP.lcIf_an, SwP.lcIf_oo, SwP.lcIf_call, SwP.c_neNN, SwP.c_eqNN, SwP.cut_takeI, SwP.cut_dropI, SwP.cut_m1, Int.reduceToNat, eq_self, Int.neg_neg, Int.toNat_natCast, hk, hin, hx, wr_ok]
          refine ⟨_, _, rfl, rfl, rfl, ?_⟩
          rw [ha]
          exact acr_skip fun h => hx (by simpa using h.2)
      · simp -implicitDefEqProofs only [SwP.bnd_ok, SwP.bnd_bad, SwP.rof_some, SwP.ev_c, SwP.ev_v, SwP.kOp2, SwP.kOp, SwP.ev_op, SwP.kCmp2, SwP.kCmp, SwP.ev_cmp, SwP.cmpR_eq, SwP.mapB, SwP.mapD, SwP.mapO, SwP.kChain, SwP.kChain2, SwP.kChain3, SwP.kChain4, SwP.ev_chain, SwP.kNeg, SwP.ev_neg, SwP.tst_eq, SwP.kTru, SwP.kNo, SwP.ev_no, SwP.kAn, SwP.kAn2, SwP.ev_an, SwP.kOo, SwP.kOo2, SwP.ev_oo, SwP.kIfE, SwP.ev_ite, SwP.ev_tup, SwP.ev_lst, SwP.kIx, SwP.kIx2, SwP.ev_ix, SwP.kSl, SwP.kSl2, SwP.kSl3, SwP.ev_sl, SwP.kRv, SwP.ev_rv, SwP.kCall_eq, SwP.dcIf_t, SwP.dcAt_eq, SwP.dcBack_eq, SwP.ev_call, SwP.kBi, SwP.ev_len, SwP.ev_tuple, SwP.ev_list, SwP.ev_sorted, SwP.ev_sum, SwP.ev_repr, SwP.ev_isinst, SwP.ev_max, SwP.ev_min, SwP.ev_set, SwP.ev_int, SwP.kMtV2, SwP.kMtV, SwP.mtAt_t, SwP.mtAt_f, SwP.kMtS_eq, SwP.ev_mt, SwP.ev_lc, SwP.ev_col, SwP.kCol, SwP.evs_nil, SwP.evs_cons, SwP.kEvs, SwP.kEvs2, SwP.evt_nil, SwP.evt_cons, SwP.kEvt, SwP.kEvt2, SwP.evo_nil, SwP.evo_c, SwP.evo_v, SwP.evo_op, SwP.evo_neg, SwP.evo_call, SwP.kBd, SwP.evi_range, SwP.evi_zip, SwP.evi_enum, SwP.evi_rev, SwP.evi_v, SwP.evi_c, SwP.evi_ix, SwP.evi_sl, SwP.evi_tup, SwP.evi_lst, SwP.evi_call, SwP.evi_op, SwP.evi_rv, SwP.evi_lc, SwP.evi_sorted, SwP.kSeqOf, SwP.kWalk, SwP.eva_nil, SwP.eva_v, SwP.eva_c, SwP.eva_op, SwP.eva_neg, SwP.eva_ix, SwP.eva_sl, SwP.eva_rv, SwP.eva_tup, SwP.eva_lst, SwP.eva_call, SwP.eva_bi, SwP.eva_lc, SwP.eva_col, SwP.eva_ite, SwP.eva_mt, SwP.kAg, SwP.kAg2, SwP.kAgD, SwP.kAgM, SwP.agM2_mu, SwP.agV_mu, SwP.agV_im, SwP.agV_fz, SwP.sx_skip, SwP.sx_seq, SwP.kSeq_nx, SwP.kSeq_rt, SwP.kSeq_bk, SwP.kSeq_ct, SwP.kPut, SwP.kGive, SwP.sx_asgN, SwP.sx_asgT, SwP.kSix, SwP.kSix2, SwP.sixAt_t, SwP.sx_six, SwP.kSwp, SwP.kSwp2, SwP.kSwp4, SwP.kSwp5, SwP.swpAt_t, SwP.sx_swp, SwP.augP_s, SwP.kAug2_int, SwP.kAug, SwP.sx_aug, SwP.kEx, SwP.sx_ex, SwP.kRet, SwP.sx_retv, SwP.sx_ite, SwP.kIte_t, SwP.kIte_f, SwP.sx_for, SwP.sx_wh, SwP.sx_brk, SwP.sx_cont, SwP.rt_c, SwP.rt_op, SwP.rt_cmp, SwP.rt_chain, SwP.rt_neg, SwP.rt_no, SwP.rt_an, SwP.rt_oo, SwP.rt_ite, SwP.rt_tup, SwP.rt_lst, SwP.rt_ix, SwP.rt_sl, SwP.rt_rv, SwP.rt_call, SwP.rt_bi, SwP.rt_mt, SwP.rt_lc, SwP.rt_col, SwP.fr_im, SwP.fr_un, SwP.fr_mu, SwP.canSet_zero, SwP.canSet_succ, SwP.put_eq, SwP.putIf_t, SwP.putF_s, SwP.setW_zero, SwP.setW_succ, SwP.ofT_im, SwP.ofT_nu, SwP.rdV_eq, SwP.rdW_im, SwP.rdW_fz, SwP.rdW_l, SwP.rdW_s, SwP.rdW_kf, SwP.rdW_kt, SwP.isMu_eq, SwP.isMuW_l, SwP.isMuW_pop, SwP.isMuW_ix, SwP.isMuW_lix, SwP.isMuW_add, SwP.isMuW_im, SwP.isMuW_fz, SwP.storeAt_im, SwP.storeW_0, SwP.storeW_1, SwP.aug_add, SwP.aug_sub, SwP.retV_m, SwP.retV_im, SwP.retV_mt, SwP.retV_fz, SwP.agsOk_nil, SwP.agsOk_n, SwP.agsOk_s, SwP.ws_nil, SwP.ws_cons, SwP.gb_nil, SwP.gb_n, SwP.gb_s, SwP.gbW_m, SwP.gbW_fT, SwP.gbW_fF, SwP.give_n, SwP.give_t, SwP.give_l, SwP.give_p, SwP.gives_nil, SwP.gives_cons, SwP.givesK_s, SwP.wipe_nil, SwP.wipe_cons, SwP.unw_nil, SwP.unw_cons, SwP.b_add, SwP.b_sub, SwP.b_mul, SwP.mulOk_l, SwP.mulOk_r, SwP.b_fdiv, SwP.b_mod, SwP.b_pow18, SwP.c_lt, SwP.c_le, SwP.c_gt, SwP.c_ge, SwP.c_eqI, SwP.c_neI, SwP.c_isN, SwP.c_isnN, SwP.t_bl, SwP.t_int, SwP.t_tup, SwP.t_lst, SwP.t_nu, SwP.t_non, SwP.d_im, SwP.d_nu, SwP.intOf_i, SwP.seq_t, SwP.seq_l, SwP.seq_n, SwP.ix_t, SwP.ix_l, SwP.ix_n, SwP.atIx_0, SwP.atIx_1, SwP.atIx_2, SwP.atIx_m1, SwP.sl_t, SwP.sl_l, SwP.sl_n, SwP.rv_t, SwP.rv_l, SwP.rv_n, SwP.int_b, SwP.int_i, SwP.len_t, SwP.len_l, SwP.len_n, SwP.tuple_t, SwP.tuple_l, SwP.tuple_n, SwP.list_t, SwP.list_l, SwP.list_n, SwP.max_i, SwP.min_i, SwP.isi_ii, SwP.isi_ib, SwP.isi_bb, SwP.isi_tt, SwP.w_range, SwP.w_zipT, SwP.w_zipL, SwP.w_enumT, SwP.w_enumL, SwP.w_revT, List.getElem?_cons_zero, List.getElem?_cons_succ, List.contains_nil, List.contains_cons, Bool.not_true, Bool.not_false, Bool.true_and, Bool.and_true, Bool.false_or, Bool.or_false, List.getD_cons_zero, List.getD_cons_succ, Option.map_some, Int.reduceNeg, Nat.reduceLT, Nat.reduceLeDiff, Int.reduceLT, Int.reduceLE, Int.reduceEq, Int.reduceAdd, Int.reduceSub, Int.reduceMul, Nat.reduceAdd, Nat.reduceBEq, Nat.reduceEqDiff, decide_true, decide_false, SwP.mkTup_eq, SwP.mkLst_eq, SwP.b_addT, SwP.b_addNN, SwP.b_addIN, SwP.b_addNI, SwP.mt_append, SwP.mt_popAt, SwP.mt_pop, SwP.col_t, SwP.col_l, List.length_cons, List.length_nil, SwP.nums_len, SwP.prs_len, SwP.upto_len, SL, SwP.range_1, SwP.sorted_prs, SwP.sorted_prsI, SwP.lcIf_nil, SwP.lcIf_no, SwP.lcIf_cmp, SwP.lcIf_chain, SwP.lcIf_an, SwP.lcIf_oo, SwP.lcIf_call, SwP.c_neNN, SwP.c_eqNN, SwP.cut_takeI, SwP.cut_dropI, SwP.cut_m1, Int.reduceToNat, eq_self, Int.neg_neg, Int.toNat_natCast, hk, wr_ok]
        refine ⟨_, _, rfl, rfl, rfl, ?_⟩
        rw [ha]
        exact acr_skip fun h => hk (by have : k = 1 := h.1; omega)
    · rintro env ⟨w3, w4, rfl, f3, f4, ha⟩
      rw [List.length_map, List.drop_length] at ha
      have ha : acr s w x = x := ha
      simp -implicitDefEqProofs only [SwP.bnd_ok, SwP.bnd_bad, SwP.rof_some, SwP.ev_c, SwP.ev_v, SwP.kOp2, SwP.kOp, SwP.ev_op, SwP.kCmp2, SwP.kCmp, SwP.ev_cmp, SwP.cmpR_eq, SwP.mapB, SwP.mapD, SwP.mapO, SwP.kChain, SwP.kChain2, SwP.kChain3, SwP.kChain4, SwP.ev_chain, SwP.kNeg, SwP.ev_neg, SwP.tst_eq, SwP.kTru, SwP.kNo, SwP.ev_no, SwP.kAn, SwP.kAn2, SwP.ev_an, SwP.kOo, SwP.kOo2, SwP.ev_oo, SwP.kIfE, SwP.ev_ite, SwP.ev_tup, SwP.ev_lst, SwP.kIx, SwP.kIx2, SwP.ev_ix, SwP.kSl, SwP.kSl2, SwP.kSl3, SwP.ev_sl, SwP.kRv, SwP.ev_rv, SwP.kCall_eq, SwP.dcIf_t, SwP.dcAt_eq, SwP.dcBack_eq, SwP.ev_call, SwP.kBi, SwP.ev_len, SwP.ev_tuple, SwP.ev_list, SwP.ev_sorted, SwP.ev_sum, SwP.ev_repr, SwP.ev_isinst, SwP.ev_max, SwP.ev_min, SwP.ev_set, SwP.ev_int, SwP.kMtV2, SwP.kMtV, SwP.mtAt_t, SwP.mtAt_f, SwP.kMtS_eq, SwP.ev_mt, SwP.ev_lc, SwP.ev_col, SwP.kCol, SwP.evs_nil, SwP.evs_cons, SwP.kEvs, SwP.kEvs2, SwP.evt_nil, SwP.evt_cons, SwP.kEvt, SwP.kEvt2, SwP.evo_nil, SwP.evo_c, SwP.evo_v, SwP.evo_op, SwP.evo_neg, SwP.evo_call, SwP.kBd, SwP.evi_range, SwP.evi_zip, SwP.evi_enum, SwP.evi_rev, SwP.evi_v, SwP.evi_c, SwP.evi_ix, SwP.evi_sl, SwP.evi_tup, SwP.evi_lst, SwP.evi_call, SwP.evi_op, SwP.evi_rv, SwP.evi_lc, SwP.evi_sorted, SwP.kSeqOf, SwP.kWalk, SwP.eva_nil, SwP.eva_v, SwP.eva_c, SwP.eva_op, SwP.eva_neg, SwP.eva_ix, SwP.eva_sl, SwP.eva_rv, SwP.eva_tup, SwP.eva_lst, SwP.eva_call, SwP.eva_bi, SwP.eva_lc, SwP.eva_col, SwP.eva_ite, SwP.eva_mt, SwP.kAg, SwP.kAg2, SwP.kAgD, SwP.kAgM, SwP.agM2_mu, SwP.agV_mu, SwP.agV_im, SwP.agV_fz, SwP.sx_skip, SwP.sx_seq, SwP.kSeq_nx, SwP.kSeq_rt, SwP.kSeq_bk, SwP.kSeq_ct, SwP.kPut, SwP.kGive, SwP.sx_asgN, SwP.sx_asgT, SwP.kSix, SwP.kSix2, SwP.sixAt_t, SwP.sx_six, SwP.kSwp, SwP.kSwp2, SwP.kSwp4, SwP.kSwp5, SwP.swpAt_t, SwP.sx_swp, SwP.augP_s, SwP.kAug2_int, SwP.kAug, SwP.sx_aug, SwP.kEx, SwP.sx_ex, SwP.kRet, SwP.sx_retv, SwP.sx_ite, SwP.kIte_t, SwP.kIte_f, SwP.sx_for, SwP.sx_wh, SwP.sx_brk, SwP.sx_cont, SwP.rt_c, SwP.rt_op, SwP.rt_cmp, SwP.rt_chain, SwP.rt_neg, SwP.rt_no, SwP.rt_an, SwP.rt_oo, SwP.rt_ite, SwP.rt_tup, SwP.rt_lst, SwP.rt_ix, SwP.rt_sl, SwP.rt_rv, SwP.rt_call, SwP.rt_bi, SwP.rt_mt, SwP.rt_lc, SwP.rt_col, SwP.fr_im, SwP.fr_un, SwP.fr_mu, SwP.canSet_zero, SwP.canSet_succ, SwP.put_eq, SwP.putIf_t, SwP.putF_s, SwP.setW_zero, SwP.setW_succ, SwP.ofT_im, SwP.ofT_nu, SwP.rdV_eq, SwP.rdW_im, SwP.rdW_fz, SwP.rdW_l, SwP.rdW_s, SwP.rdW_kf, SwP.rdW_kt, SwP.isMu_eq, SwP.isMuW_l, SwP.isMuW_pop, SwP.isMuW_ix, SwP.isMuW_lix, SwP.isMuW_add, SwP.isMuW_im, SwP.isMuW_fz, SwP.storeAt_im, SwP.storeW_0, SwP.storeW_1, SwP.aug_add, SwP.aug_sub, SwP.retV_m, SwP.retV_im, SwP.retV_mt, SwP.retV_fz, SwP.agsOk_nil, SwP.agsOk_n, SwP.agsOk_s, SwP.ws_nil, SwP.ws_cons, SwP.gb_nil, SwP.gb_n, SwP.gb_s, SwP.gbW_m, SwP.gbW_fT, SwP.gbW_fF, SwP.give_n, SwP.give_t, SwP.give_l, SwP.give_p, SwP.gives_nil, SwP.gives_cons, SwP.givesK_s, SwP.wipe_nil, SwP.wipe_cons, SwP.unw_nil, SwP.unw_cons, SwP.b_add, SwP.b_sub, SwP.b_mul, SwP.mulOk_l, SwP.mulOk_r, SwP.b_fdiv, SwP.b_mod, SwP.b_pow18, SwP.c_lt, SwP.c_le, SwP.c_gt, SwP.c_ge, SwP.c_eqI, SwP.c_neI, SwP.c_isN, SwP.c_isnN, SwP.t_bl, SwP.t_int, SwP.t_tup, SwP.t_lst, SwP.t_nu, SwP.t_non, SwP.d_im, SwP.d_nu, SwP.intOf_i, SwP.seq_t, SwP.seq_l, SwP.seq_n, SwP.ix_t, SwP.ix_l, SwP.ix_n, SwP.atIx_0, SwP.atIx_1, SwP.atIx_2, SwP.atIx_m1, SwP.sl_t, SwP.sl_l, SwP.sl_n, SwP.rv_t, SwP.rv_l, SwP.rv_n, SwP.int_b, SwP.int_i, SwP.len_t, SwP.len_l, SwP.len_n, SwP.tuple_t, SwP.tuple_l, SwP.tuple_n, SwP.list_t, SwP.list_l, SwP.list_n, SwP.max_i, SwP.min_i, SwP.isi_ii, SwP.isi_ib, SwP.isi_bb, SwP.isi_tt, SwP.w_range, SwP.w_zipT, SwP.w_zipL, SwP.w_enumT, SwP.w_enumL, SwP.w_revT, List.getElem?_cons_zero, List.getElem?_cons_succ, List.contains_nil, List.contains_cons, Bool.not_true, Bool.not_false, Bool.true_and, Bool.and_true, Bool.false_or, Bool.or_false, List.getD_cons_zero, List.getD_cons_succ, Option.map_some, Int.reduceNeg, Nat.reduceLT, Nat.reduceLeDiff, Int.reduceLT, Int.reduceLE, Int.reduceEq, Int.reduceAdd, Int.reduceSub, Int.reduceMul, Nat.reduceAdd, Nat.reduceBEq, Nat.reduceEqDiff, decide_true, decide_false, SwP.mkTup_eq, SwP.mkLst_eq, SwP.b_addT, SwP.b_addNN, SwP.b_addIN, SwP.b_addNI, SwP.mt_append, SwP.mt_popAt, SwP.mt_pop, SwP.col_t, SwP.col_l, List.length_cons, List.length_nil, SwP.nums_len, SwP.prs_len, SwP.upto_len, SL, SwP.range_1, SwP.sorted_prs, SwP.sorted_prsI, SwP.lcIf_nil, SwP.lcIf_no, SwP.lcIf_cmp, SwP.lcIf_chain, SwP.lcIf_an, SwP.lcIf_oo, SwP.lcIf_call, SwP.c_neNN, SwP.c_eqNN, SwP.cut_takeI, SwP.cut_dropI, SwP.cut_m1, Int.reduceToNat, eq_self, Int.neg_neg, Int.toNat_natCast, wr_ok]
      rw [ha]
      exact ⟨rfl, rfl⟩
  rw [e, h1, h2]
theorem wayB (n : Nat) {y : D} {sts : List (List (Nat × Nat))} {us : List (List Nat)} {x : Nat} (hl : us.length = sts.length) (hl2 : sts.length ≤ 1000) : callD prog (n + 2) 9 [.im (.tup [y, .tup (stg sts)]), .im (.tup (wys us)), .im (.int (x : Int))] = some (some (.im (.tup (nums (way sts us x))), [.im (.tup [y, .tup (stg sts)]), .im (.tup (wys us)), .im (.int (x : Int))])) := by
  obtain ⟨t, ws, e, h1, h2⟩ : Calls (callD prog (n + 2)) 9 [.im (.tup [y, .tup (stg sts)]), .im (.tup (wys us)), .im (.int (x : Int))] fun t ws => t = .im (.tup (nums (way sts us x))) ∧ ws = [.im (.tup [y, .tup (stg sts)]), .im (.tup (wys us)), .im (.int (x : Int))] := by
    refine calls_of (fn := f_l_way) rfl rfl ?_
    show WR (sx _ f_l_way.body [.im (.tup [y, .tup (stg sts)]), .im (.tup (wys us)), .im (.int (x : Int)), .un, .un, .un]) _
    unfold f_l_way
    have hx1 : [D.int (x : Int)] = nums ([] ++ [x]) := rfl
    simp -implicitDefEqProofs only [SwP.bnd_ok, SwP.bnd_bad, SwP.rof_some, SwP.ev_c, SwP.ev_v, SwP.kOp2, SwP.kOp, SwP.ev_op, SwP.kCmp2, SwP.kCmp, SwP.ev_cmp, SwP.cmpR_eq, SwP.mapB, SwP.mapD, SwP.mapO, SwP.kChain, SwP.kChain2, SwP.kChain3, SwP.kChain4, SwP.ev_chain, SwP.kNeg, SwP.ev_neg, SwP.tst_eq, SwP.kTru, SwP.kNo, SwP.ev_no, SwP.kAn, SwP.kAn2, SwP.ev_an, SwP.kOo, SwP.kOo2, SwP.ev_oo, SwP.kIfE, SwP.ev_ite, SwP.ev_tup, SwP.ev_lst, SwP.kIx, SwP.kIx2, SwP.ev_ix, SwP.kSl, SwP.kSl2, SwP.kSl3, SwP.ev_sl, SwP.kRv, SwP.ev_rv, SwP.kCall_eq, SwP.dcIf_t, SwP.dcAt_eq, SwP.dcBack_eq, SwP.ev_call, SwP.kBi, SwP.ev_len, SwP.ev_tuple, SwP.ev_list, SwP.ev_sorted, SwP.ev_sum, SwP.ev_repr, SwP.ev_isinst, SwP.ev_max, SwP.ev_min, SwP.ev_set, SwP.ev_int, SwP.kMtV2, SwP.kMtV, SwP.mtAt_t, SwP.mtAt_f, SwP.kMtS_eq, SwP.ev_mt, SwP.ev_lc, SwP.ev_col, SwP.kCol, SwP.evs_nil, SwP.evs_cons, SwP.kEvs, SwP.kEvs2, SwP.evt_nil, SwP.evt_cons, SwP.kEvt, SwP.kEvt2, SwP.evo_nil, SwP.evo_c, SwP.evo_v, SwP.evo_op, SwP.evo_neg, SwP.evo_call, SwP.kBd, SwP.evi_range, SwP.evi_zip, SwP.evi_enum, SwP.evi_rev, SwP.evi_v, SwP.evi_c, SwP.evi_ix, SwP.evi_sl, SwP.evi_tup, SwP.evi_lst, SwP.evi_call, SwP.evi_op, SwP.evi_rv, SwP.evi_lc, SwP.evi_sorted, SwP.kSeqOf, SwP.kWalk, SwP.eva_nil, SwP.eva_v, SwP.eva_c, SwP.eva_op, SwP.eva_neg, SwP.eva_ix, SwP.eva_sl, SwP.eva_rv, SwP.eva_tup, SwP.eva_lst, SwP.eva_call, SwP.eva_bi, SwP.eva_lc, SwP.eva_col, SwP.eva_ite, SwP.eva_mt, SwP.kAg, SwP.kAg2, SwP.kAgD, SwP.kAgM, SwP.agM2_mu, SwP.agV_mu, SwP.agV_im, SwP.agV_fz, SwP.sx_skip, SwP.sx_seq, SwP.kSeq_nx, SwP.kSeq_rt, SwP.kSeq_bk, SwP.kSeq_ct, SwP.kPut, SwP.kGive, SwP.sx_asgN, SwP.sx_asgT, SwP.kSix, SwP.kSix2, SwP.sixAt_t, SwP.sx_six, SwP.kSwp, SwP.kSwp2, SwP.kSwp4, SwP.kSwp5, SwP.swpAt_t, SwP.sx_swp, SwP.augP_s, SwP.kAug2_int, SwP.kAug, SwP.sx_aug, SwP.kEx, SwP.sx_ex, SwP.kRet, SwP.sx_retv, SwP.sx_ite, SwP.kIte_t, SwP.kIte_f, SwP.sx_for, SwP.sx_wh, SwP.sx_brk, SwP.sx_cont, SwP.rt_c, SwP.rt_op, SwP.rt_cmp, SwP.rt_chain, SwP.rt_neg, SwP.rt_no, SwP.rt_an, SwP.rt_oo, SwP.rt_ite, SwP.rt_tup, SwP.rt_lst, SwP.rt_ix, SwP.rt_sl, SwP.rt_rv, SwP.rt_call, SwP.rt_bi, SwP.rt_mt, SwP.rt_lc, SwP.rt_col, SwP.fr_im, SwP.fr_un, SwP.fr_mu, SwP.canSet_zero, SwP.canSet_succ, SwP.put_eq, SwP.putIf_t, SwP.putF_s, SwP.setW_zero, SwP.setW_succ, SwP.ofT_im, SwP.ofT_nu, SwP.rdV_eq, SwP.rdW_im, SwP.rdW_fz, SwP.rdW_l, SwP.rdW_s, SwP.rdW_kf, SwP.rdW_kt, SwP.isMu_eq, SwP.isMuW_l, SwP.isMuW_pop, SwP.isMuW_ix, SwP.isMuW_lix, SwP.isMuW_add, SwP.isMuW_im, SwP.isMuW_fz, SwP.storeAt_im, SwP.storeW_0, SwP.storeW_1, SwP.aug_add, SwP.aug_sub, SwP.retV_m, SwP.retV_im, SwP.retV_mt, SwP.retV_fz, SwP.agsOk_nil, SwP.agsOk_n, SwP.agsOk_s, SwP.ws_nil, SwP.ws_cons, SwP.gb_nil, SwP.gb_n, SwP.gb_s, SwP.gbW_m, SwP.gbW_fT, SwP.gbW_fF, SwP.give_n, SwP.give_t, SwP.give_l, SwP.give_p, SwP.gives_nil, SwP.gives_cons, SwP.givesK_s, SwP.wipe_nil, SwP.wipe_cons, SwP.unw_nil, SwP.unw_cons, SwP.b_add, SwP.b_sub, SwP.b_mul, SwP.mulOk_l, SwP.mulOk_r, SwP.b_fdiv, SwP.b_mod, SwP.b_pow18, SwP.c_lt, SwP.c_le, SwP.c_gt, SwP.c_ge, SwP.c_eqI, SwP.c_neI, SwP.c_isN, SwP.c_isnN, SwP.t_bl, SwP.t_int, SwP.t_tup, SwP.t_lst, SwP.t_nu, SwP.t_non, SwP.d_im, SwP.d_nu, SwP.intOf_i, SwP.seq_t, SwP.seq_l, SwP.seq_n, SwP.ix_t, SwP.ix_l, SwP.ix_n, SwP.atIx_0, SwP.atIx_1, SwP.atIx_2, SwP.atIx_m1, SwP.sl_t, SwP.sl_l, SwP.sl_n, SwP.rv_t, SwP.rv_l, SwP.rv_n, SwP.int_b, SwP.int_i, SwP.len_t, SwP.len_l, SwP.len_n, SwP.tuple_t, SwP.tuple_l, SwP.tuple_n, SwP.list_t, SwP.list_l, SwP.list_n, SwP.max_i, SwP.min_i, SwP.isi_ii, SwP.isi_ib, SwP.isi_bb, SwP.isi_tt, SwP.w_range, SwP.w_zipT, SwP.w_zipL, SwP.w_enumT, SwP.w_enumL, SwP.w_revT, List.getElem?_cons_zero, List.getElem?_cons_succ, List.contains_nil, List.contains_cons, Bool.not_true, Bool.not_false, Bool.true_and, Bool.and_true, Bool.false_or, Bool.or_false, List.getD_cons_zero, List.getD_cons_succ, Option.map_some, Int.reduceNeg, Nat.reduceLT, Nat.reduceLeDiff, Int.reduceLT, Int.reduceLE, Int.reduceEq, Int.reduceAdd, Int.reduceSub, Int.reduceMul, Nat.reduceAdd, Nat.reduceBEq, Nat.reduceEqDiff, decide_true, decide_false, SwP.mkTup_eq, SwP.mkLst_eq, SwP.b_addT, SwP.b_addNN, SwP.b_addIN, SwP.b_addNI, SwP.mt_append, SwP.mt_popAt, SwP.mt_pop, SwP.col_t, SwP.col_l, List.length_cons, List.length_nil, SwP.nums_len, SwP.prs_len, SwP.upto_len, SL, SwP.range_1, SwP.sorted_prs, SwP.sorted_prsI, SwP.lcIf_nil, SwP.lcIf_no, SwP.lcIf_cmp, SwP.lcIf_chain, SwP.lcIf_an, SwP.lcIf_oo, SwP.lcIf_call, SwP.c_neNN, SwP.c_eqNN, SwP.cut_takeI, SwP.cut_dropI, SwP.cut_m1, Int.reduceToNat, eq_self, Int.neg_neg, Int.toNat_natCast, zip_stg]
    simp only [wr_bnd]
    refine wr_for (I := fun i env => ∃ ps z w4 w5, env = [.im (.tup [y, .tup (stg sts)]), .im (.tup (wys us)), .im (.int (x : Int)), .mu false (.l (nums (ps ++ [z]))), w4, w5] ∧ fr w4 = true ∧ fr w5 = true ∧ ps.length = i ∧ way sts us x = ps ++ way (sts.drop i) (us.drop i) z) ⟨[], x, _, _, rfl, rfl, rfl, rfl, rfl⟩ ?_ ?_
    · rintro i hi env ⟨ps, z, w4, w5, rfl, f4, f5, hp, hw⟩
      have hi' : i < (sts.zip us).length := by simpa using hi
      have hi1 : i < sts.length := by rw [List.length_zip, hl, Nat.min_self] at hi'; exact hi'
      have hi2 : i < us.length := by omega
      have hg : ((sts.zip us).map fun q => D.pr [.tup (prs q.1), .tup (nums q.2)])[i] = .pr [.tup (prs sts[i]), .tup (nums us[i])] := by simp
      refine ⟨_, by rw [hg]; simp -implicitDefEqProofs only [SwP.bnd_ok, SwP.bnd_bad, SwP.rof_some, SwP.ev_c, SwP.ev_v, SwP.kOp2, SwP.kOp, SwP.ev_op, SwP.kCmp2, SwP.kCmp, SwP.ev_cmp, SwP.cmpR_eq, SwP.mapB, SwP.mapD, SwP.mapO, SwP.kChain, SwP.kChain2, SwP.kChain3, SwP.kChain4, SwP.ev_chain, SwP.kNeg, SwP.ev_neg, SwP.tst_eq, SwP.kTru, SwP.kNo, SwP.ev_no, SwP.kAn, SwP.kAn2, SwP.ev_an, SwP.kOo, SwP.kOo2, SwP.ev_oo, SwP.kIfE, SwP.ev_ite, SwP.ev_tup, SwP.ev_lst, SwP.kIx, SwP.kIx2, SwP.ev_ix, SwP.kSl, SwP.kSl2, SwP.kSl3, SwP.ev_sl, SwP.kRv, SwP.ev_rv, SwP.kCall_eq, SwP.dcIf_t, SwP.dcAt_eq, SwP.dcBack_eq, SwP.ev_call, SwP.kBi, SwP.ev_len, SwP.ev_tuple, SwP.ev_list, SwP.ev_sorted, SwP.ev_sum, SwP.ev_repr, SwP.ev_isinst, SwP.ev_max, SwP.ev_min, SwP.ev_set, SwP.ev_int, SwP.kMtV2, SwP.kMtV, SwP.mtAt_t, SwP.mtAt_f, SwP.kMtS_eq, SwP.ev_mt, SwP.ev_lc, SwP.ev_col, SwP.kCol, SwP.evs_nil, SwP.evs_cons, SwP.kEvs, SwP.kEvs2, SwP.evt_nil, SwP.evt_cons, SwP.kEvt, SwP.kEvt2, SwP.evo_nil, SwP.evo_c, SwP.evo_v, SwP.evo_op, SwP.evo_neg, SwP.evo_call, SwP.kBd, SwP.evi_range, SwP.evi_zip, SwP.evi_enum, SwP.evi_rev, SwP.evi_v, SwP.evi_c, SwP.evi_ix, SwP.evi_sl, SwP.evi_tup, SwP.evi_lst, SwP.evi_call, SwP.evi_op, SwP.evi_rv, SwP.evi_lc, SwP.evi_sorted, SwP.kSeqOf, SwP.kWalk, SwP.eva_nil, SwP.eva_v, SwP.eva_c, SwP.eva_op, SwP.eva_neg, SwP.eva_ix, SwP.eva_sl, SwP.eva_rv, SwP.eva_tup, SwP.eva_lst, SwP.eva_call, SwP.eva_bi, SwP.eva_lc, SwP.eva_col, SwP.eva_ite, SwP.eva_mt, SwP.kAg, SwP.kAg2, SwP.kAgD, SwP.kAgM, SwP.agM2_mu, SwP.agV_mu, SwP.agV_im, SwP.agV_fz, SwP.sx_skip, SwP.sx_seq, SwP.kSeq_nx, SwP.kSeq_rt, SwP.kSeq_bk, SwP.kSeq_ct, SwP.kPut, SwP.kGive, SwP.sx_asgN, SwP.sx_asgT, SwP.kSix, SwP.kSix2, SwP.sixAt_t, SwP.sx_six, SwP.kSwp, SwP.kSwp2, SwP.kSwp4, SwP.kSwp5, SwP.swpAt_t, SwP.sx_swp, SwP.augP_s, SwP.kAug2_int, SwP.kAug, SwP.sx_aug, SwP.kEx, SwP.sx_ex, SwP.kRet, SwP.sx_retv, SwP.sx_ite, SwP.kIte_t, SwP.kIte_f, SwP.sx_for, SwP.sx_wh, SwP.sx_brk, SwP.sx_cont, SwP.rt_c, SwP.rt_op, SwP.rt_cmp, SwP.rt_chain, SwP.rt_neg, SwP.rt_no, SwP.rt_an, SwP.rt_oo, SwP.rt_ite, SwP.rt_tup, SwP.rt_lst, SwP.rt_ix, SwP.rt_sl, SwP.rt_rv, SwP.rt_call, SwP.rt_bi, SwP.rt_mt, SwP.rt_lc, SwP.rt_col, SwP.fr_im, SwP.fr_un, SwP.fr_mu, SwP.canSet_zero, SwP.canSet_succ, SwP.put_eq, SwP.putIf_t, SwP.putF_s, SwP.setW_zero, SwP.setW_succ, SwP.ofT_im, SwP.ofT_nu, SwP.rdV_eq, SwP.rdW_im, SwP.rdW_fz, SwP.rdW_l, SwP.rdW_s, SwP.rdW_kf, SwP.rdW_kt, SwP.isMu_eq, SwP.isMuW_l, SwP.isMuW_pop, SwP.isMuW_ix, SwP.isMuW_lix, SwP.isMuW_add, SwP.isMuW_im, SwP.isMuW_fz, SwP.storeAt_im, SwP.storeW_0, SwP.storeW_1, SwP.aug_add, SwP.aug_sub, SwP.retV_m, SwP.retV_im, SwP.retV_mt, SwP.retV_fz, SwP.agsOk_nil, SwP.agsOk_n, SwP.agsOk_s, SwP.ws_nil, SwP.ws_cons, SwP.gb_nil, SwP.gb_n, SwP.gb_s, SwP.gbW_m, SwP.gbW_fT, SwP.gbW_fF, SwP.give_n, SwP.give_t, SwP.give_l, SwP.give_p, SwP.gives_nil, SwP.gives_cons, SwP.givesK_s, SwP.wipe_nil, SwP.wipe_cons, SwP.unw_nil, SwP.unw_cons, SwP.b_add, SwP.b_sub, SwP.b_mul, SwP.mulOk_l, SwP.mulOk_r, SwP.b_fdiv, SwP.b_mod, SwP.b_pow18, SwP.c_lt, SwP.c_le, SwP.c_gt, SwP.c_ge, SwP.c_eqI, SwP.c_neI, SwP.c_isN, SwP.c_isnN, SwP.t_bl, SwP.t_int, SwP.t_tup, SwP.t_lst, SwP.t_nu, SwP.t_non, SwP.d_im, SwP.d_nu, SwP.intOf_i, SwP.seq_t, SwP.seq_l, SwP.seq_n, SwP.ix_t, SwP.ix_l, SwP.ix_n, SwP.atIx_0, SwP.atIx_1, SwP.atIx_2, SwP.atIx_m1, SwP.sl_t, SwP.sl_l, SwP.sl_n, SwP.rv_t, SwP.rv_l, SwP.rv_n, SwP.int_b, SwP.int_i, SwP.len_t, SwP.len_l, SwP.len_n, SwP.tuple_t, SwP.tuple_l, SwP.tuple_n, SwP.list_t, SwP.list_l, SwP.list_n, SwP.max_i, SwP.min_i, SwP.isi_ii, SwP.isi_ib, SwP.isi_bb, SwP.isi_tt, SwP.w_range, SwP.w_zipT, SwP.w_zipL, SwP.w_enumT, SwP.w_enumL, SwP.w_revT, List.getElem?_cons_zero, List.getElem?_cons_succ, List.contains_nil, List.contains_cons, Bool.not_true, Bool.not_false, Bool.true_and, Bool.and_true, Bool.false_or, Bool.or_false, List.getD_cons_zero, List.getD_cons_succ, Option.map_some, Int.reduceNeg, Nat.reduceLT, Nat.reduceLeDiff, Int.reduceLT, Int.reduceLE, Int.reduceEq, Int.reduceAdd, Int.reduceSub, Int.reduceMul, Nat.reduceAdd, Nat.reduceBEq, Nat.reduceEqDiff, decide_true, decide_false, SwP.mkTup_eq, SwP.mkLst_eq, SwP.b_addT, SwP.b_addNN, SwP.b_addIN, SwP.b_addNI, SwP.mt_append, SwP.mt_popAt, SwP.mt_pop, SwP.col_t, SwP.col_l, List.length_cons, List.length_nil, SwP.nums_len, SwP.prs_len, SwP.upto_len, SL, SwP.range_1, SwP.sorted_prs, SwP.sorted_prsI, SwP.lcIf_nil, SwP.lcIf_no, SwP.lcIf_cmp, SwP.lcIf_chain, SwP.lcIf_an, SwP.lcIf_oo, SwP.lcIf_call, SwP.c_neNN, SwP.c_eqNN, SwP.cut_takeI, SwP.cut_dropI, SwP.cut_m1, Int.reduceToNat, eq_self, Int.neg_neg, Int.toNat_natCast, f4, f5]; rfl, ?_⟩
      have e1 := acrossB n (s := sts[i]) (w := us[i]) (x := z)
      have hm1 : atIx (nums (ps ++ [z])) (-1) = some (.int (z : Int)) := by
        rw [nums_app]
        exact atIx_m1
      have b6 : (ps ++ [z]).length < 16777216 := by simp; omega
      have hsn : nums (ps ++ [z]) ++ [.int (acr sts[i] us[i] z : Int)] = nums ((ps ++ [z]) ++ [acr sts[i] us[i] z]) := by rw [nums_app (l := ps ++ [z])]; rfl
      simp -implicitDefEqProofs only [SwP.bnd_ok, SwP.bnd_bad, SwP.rof_some, SwP.ev_c, SwP.ev_v, SwP.kOp2, SwP.kOp, SwP.ev_op, SwP.kCmp2, SwP.kCmp, SwP.ev_cmp, SwP.cmpR_eq, SwP.mapB, SwP.mapD, SwP.mapO, SwP.kChain, SwP.kChain2, SwP.kChain3, SwP.kChain4, SwP.ev_chain, SwP.kNeg, SwP.ev_neg, SwP.tst_eq, SwP.kTru, SwP.kNo, SwP.ev_no, SwP.kAn, SwP.kAn2, SwP.ev_an, SwP.kOo, SwP.kOo2, SwP.ev_oo, SwP.kIfE, SwP.ev_ite, SwP.ev_tup, SwP.ev_lst, SwP.kIx, SwP.kIx2, SwP.ev_ix, SwP.kSl, SwP.kSl2, SwP.kSl3, SwP.ev_sl, SwP.kRv, SwP.ev_rv, SwP.kCall_eq, SwP.dcIf_t, SwP.dcAt_eq, SwP.dcBack_eq, SwP.ev_call, SwP.kBi, SwP.ev_len, SwP.ev_tuple, SwP.ev_list, SwP.ev_sorted, SwP.ev_sum, SwP.ev_repr, SwP.ev_isinst, SwP.ev_max, SwP.ev_min, SwP.ev_set, SwP.ev_int, SwP.kMtV2, SwP.kMtV, SwP.mtAt_t, SwP.mtAt_f, SwP.kMtS_eq, SwP.ev_mt, SwP.ev_lc, SwP.ev_col, SwP.kCol, SwP.evs_nil, SwP.evs_cons, SwP.kEvs, SwP.kEvs2, SwP.evt_nil, SwP.evt_cons, SwP.kEvt, SwP.kEvt2, SwP.evo_nil, SwP.evo_c, SwP.evo_v, SwP.evo_op, SwP.evo_neg, SwP.evo_call, SwP.kBd, SwP.evi_range, SwP.evi_zip, SwP.evi_enum, SwP.evi_rev, SwP.evi_v, SwP.evi_c, SwP.evi_ix, SwP.evi_sl, SwP.evi_tup, SwP.evi_lst, SwP.evi_call, SwP.evi_op, SwP.evi_rv, SwP.evi_lc, SwP.evi_sorted, SwP.kSeqOf, SwP.kWalk, SwP.eva_nil, SwP.eva_v, SwP.eva_c, SwP.eva_op, SwP.eva_neg, SwP.eva_ix, SwP.eva_sl, SwP.eva_rv, SwP.eva_tup, SwP.eva_lst, SwP.eva_call, SwP.eva_bi, SwP.eva_lc, SwP.eva_col, SwP.eva_ite, SwP.eva_mt, SwP.kAg, SwP.kAg2, SwP.kAgD, SwP.kAgM, SwP.agM2_mu, SwP.agV_mu, SwP.agV_im, SwP.agV_fz, SwP.sx_skip, SwP.sx_seq, SwP.kSeq_nx, SwP.kSeq_rt, SwP.kSeq_bk, SwP.kSeq_ct, SwP.kPut, SwP.kGive, SwP.sx_asgN, SwP.sx_asgT, SwP.kSix, SwP.kSix2, SwP.sixAt_t, SwP.sx_six, SwP.kSwp, SwP.kSwp2, SwP.kSwp4, SwP.kSwp5, SwP.swpAt_t, SwP.sx_swp, SwP.augP_s, SwP.kAug2_int, SwP.kAug, SwP.sx_aug, SwP.kEx, SwP.sx_ex, SwP.kRet, SwP.sx_retv, SwP.sx_ite, SwP.kIte_t, SwP.kIte_f, SwP.sx_for, SwP.sx_wh, SwP.sx_brk, SwP.sx_cont, SwP.rt_c, SwP.rt_op, SwP.rt_cmp, SwP.rt_chain, SwP.rt_neg, SwP.rt_no, SwP.rt_an, SwP.rt_oo, SwP.rt_ite, SwP.rt_tup, SwP.rt_lst, SwP.rt_ix, SwP.rt_sl, SwP.rt_rv, SwP.rt_call, SwP.rt_bi, SwP.rt_mt, SwP.rt_lc, SwP.rt_col, SwP.fr_im, SwP.fr_un, SwP.fr_mu, SwP.canSet_zero, SwP.canSet_succ, SwP.put_eq, SwP.putIf_t, SwP.putF_s, SwP.setW_zero, SwP.setW_succ, SwP.ofT_im, SwP.ofT_nu, SwP.rdV_eq, SwP.rdW_im, SwP.rdW_fz, SwP.rdW_l, SwP.rdW_s, SwP.rdW_kf, SwP.rdW_kt, SwP.isMu_eq, SwP.isMuW_l, SwP.isMuW_pop, SwP.isMuW_ix, SwP.isMuW_lix, SwP.isMuW_add, SwP.isMuW_im, SwP.isMuW_fz, SwP.storeAt_im, SwP.storeW_0, SwP.storeW_1, SwP.aug_add, SwP.aug_sub, SwP.retV_m, SwP.retV_im, SwP.retV_mt, SwP.retV_fz, SwP.agsOk_nil, SwP.agsOk_n, SwP.agsOk_s, SwP.ws_nil, SwP.ws_cons, SwP.gb_nil, SwP.gb_n, SwP.gb_s, SwP.gbW_m, SwP.gbW_fT, SwP.gbW_fF, SwP.give_n, SwP.give_t, SwP.give_l, SwP.give_p, SwP.gives_nil, SwP.gives_cons, SwP.givesK_s, SwP.wipe_nil, SwP.wipe_cons, SwP.unw_nil, SwP.unw_cons, SwP.b_add, SwP.b_sub, SwP.b_mul, SwP.mulOk_l, SwP.mulOk_r, SwP.b_fdiv, SwP.b_mod, SwP.b_pow18, SwP.c_lt, SwP.c_le, SwP.c_gt, SwP.c_ge, SwP.c_eqI, SwP.c_neI, SwP.c_isN, SwP.c_isnN, SwP.t_bl, SwP.t_int, SwP.t_tup, SwP.t_lst, SwP.t_nu, SwP.t_non, SwP.d_im, SwP.d_nu, SwP.intOf_i, SwP.seq_t, SwP.seq_l, SwP.seq_n, SwP.ix_t, SwP.ix_l, SwP.ix_n, SwP.atIx_0, SwP.atIx_1, SwP.atIx_2, SwP.atIx_m1, SwP.sl_t, SwP.sl_l, SwP.sl_n, SwP.rv_t, SwP.rv_l, SwP.rv_n, SwP.int_b, SwP.int_i, SwP.len_t, SwP.len_l, SwP.len_n, SwP.tuple_t, SwP.tuple_l, SwP.tuple_n, SwP.list_t, SwP.list_l, SwP.list_n, SwP.max_i, SwP.min_i, SwP.isi_ii, SwP.isi_ib, SwP.isi_bb, SwP.isi_tt, SwP.w_range, SwP.w_zipT, SwP.w_zipL, SwP.w_enumT, SwP.w_enumL, SwP.w_revT, List.getElem?_cons_zero, List.getElem?_cons_succ, List.contains_nil, List.contains_cons, Bool.not_true, Bool.not_false, Bool.true_and, Bool.and_true, Bool.false_or, Bool.or_false, List.getD_cons_zero, List.getD_cons_succ, Option.map_some, Int.reduceNeg, Nat.reduceLT, Nat.reduceLeDiff, Int.reduceLT, Int.reduceLE, Int.reduceEq, Int.reduceAdd, Int.reduceSub, Int.reduceMul, Nat.reduceAdd, Nat.reduceBEq, Nat.reduceEqDiff, decide_true, decide_false, SwP.mkTup_eq, SwP.mkLst_eq, SwP.b_addT, SwP.b_addNN, SwP.b_addIN, SwP.b_addNI, SwP.mt_append, SwP.mt_popAt, SwP.mt_pop, SwP.col_t, SwP.col_l, List.length_cons, List.length_nil, SwP.nums_len, SwP.prs_len, SwP.upto_len, SL, SwP.range_1, SwP.sorted_prs, SwP.sorted_prsI, SwP.lcIf_nil, SwP.lcIf_no, SwP.lcIf_cmp, SwP.lcIf_chain, SwP.lcIf_an, SwP.lcIf_oo, SwP.lcIf_call, SwP.c_neNN, SwP.c_eqNN, SwP.cut_takeI, SwP.cut_dropI, SwP.cut_m1, Int.reduceToNat, eq_self, Int.neg_neg, Int.toNat_natCast, hm1, e1, b6, hsn, wr_ok]
      refine ⟨ps ++ [z], acr sts[i] us[i] z, _, _, rfl, rfl, rfl, by simp [hp], ?_⟩
      rw [hw, List.drop_eq_getElem_cons hi1, List.drop_eq_getElem_cons hi2]
      simp [way]
    · rintro env ⟨ps, z, w4, w5, rfl, f4, f5, hp, hw⟩
      have hn : ((sts.zip us).map fun q => D.pr [.tup (prs q.1), .tup (nums q.2)]).length = sts.length := by simp [hl]
      rw [hn, List.drop_length] at hw
      have hw : way sts us x = ps ++ [z] := by
        rw [hw]
        cases us.drop sts.length <;> rfl
      simp -implicitDefEqProofs only [SwP.bnd_ok, SwP.bnd_bad, SwP.rof_some, SwP.ev_c, SwP.ev_v, SwP.kOp2, SwP.kOp, SwP.ev_op, SwP.kCmp2, SwP.kCmp, SwP.ev_cmp, SwP.cmpR_eq, SwP.mapB, SwP.mapD, SwP.mapO, SwP.kChain, SwP.kChain2, SwP.kChain3, SwP.kChain4, SwP.ev_chain, SwP.kNeg, SwP.ev_neg, SwP.tst_eq, SwP.kTru, SwP.kNo, SwP.ev_no, SwP.kAn, SwP.kAn2, SwP.ev_an, SwP.kOo, SwP.kOo2, SwP.ev_oo, SwP.kIfE, SwP.ev_ite, SwP.ev_tup, SwP.ev_lst, SwP.kIx, SwP.kIx2, SwP.ev_ix, SwP.kSl, SwP.kSl2, SwP.kSl3, SwP.ev_sl, SwP.kRv, SwP.ev_rv, SwP.kCall_eq, SwP.dcIf_t, SwP.dcAt_eq, SwP.dcBack_eq, SwP.ev_call, SwP.kBi, SwP.ev_len, SwP.ev_tuple, SwP.ev_list, SwP.ev_sorted, SwP.ev_sum, SwP.ev_repr, SwP.ev_isinst, SwP.ev_max, SwP.ev_min, SwP.ev_set, SwP.ev_int, SwP.kMtV2, SwP.kMtV, SwP.mtAt_t, SwP.mtAt_f, SwP.kMtS_eq, SwP.ev_mt, SwP.ev_lc, SwP.ev_col, SwP.kCol, SwP.evs_nil, SwP.evs_cons, SwP.kEvs, SwP.kEvs2, SwP.evt_nil, SwP.evt_cons, SwP.kEvt, SwP.kEvt2, SwP.evo_nil, SwP.evo_c, SwP.evo_v, SwP.evo_op, SwP.evo_neg, SwP.evo_call, SwP.kBd, SwP.evi_range, SwP.evi_zip, SwP.evi_enum, SwP.evi_rev, SwP.evi_v, SwP.evi_c, SwP.evi_ix, SwP.evi_sl, SwP.evi_tup, SwP.evi_lst, SwP.evi_call, SwP.evi_op, SwP.evi_rv, SwP.evi_lc, SwP.evi_sorted, SwP.kSeqOf, SwP.kWalk, SwP.eva_nil, SwP.eva_v, SwP.eva_c, SwP.eva_op, SwP.eva_neg, SwP.eva_ix, SwP.eva_sl, SwP.eva_rv, SwP.eva_tup, SwP.eva_lst, SwP.eva_call, SwP.eva_bi, SwP.eva_lc, SwP.eva_col, SwP.eva_ite, SwP.eva_mt, SwP.kAg, SwP.kAg2, SwP.kAgD, SwP.kAgM, SwP.agM2_mu, SwP.agV_mu, SwP.agV_im, SwP.agV_fz, SwP.sx_skip, SwP.sx_seq, SwP.kSeq_nx, SwP.kSeq_rt, SwP.kSeq_bk, SwP.kSeq_ct, SwP.kPut, SwP.kGive, SwP.sx_asgN, SwP.sx_asgT, SwP.kSix, SwP.kSix2, SwP.sixAt_t, SwP.sx_six, SwP.kSwp, SwP.kSwp2, SwP.kSwp4, SwP.kSwp5, SwP.swpAt_t, SwP.sx_swp, SwP.augP_s, SwP.kAug2_int, SwP.kAug, SwP.sx_aug, SwP.kEx, SwP.sx_ex, SwP.kRet, SwP.sx_retv, SwP.sx_ite, SwP.kIte_t, SwP.kIte_f, SwP.sx_for, SwP.sx_wh, SwP.sx_brk, SwP.sx_cont, SwP.rt_c, SwP.rt_op, SwP.rt_cmp, SwP.rt_chain, SwP.rt_neg, SwP.rt_no, SwP.rt_an, SwP.rt_oo, SwP.rt_ite, SwP.rt_tup, SwP.rt_lst, SwP.rt_ix, SwP.rt_sl, SwP.rt_rv, SwP.rt_call, SwP.rt_bi, SwP.rt_mt, SwP.rt_lc, SwP.rt_col, SwP.fr_im, SwP.fr_un, SwP.fr_mu, SwP.canSet_zero, SwP.canSet_succ, SwP.put_eq, SwP.putIf_t, SwP.putF_s, SwP.setW_zero, SwP.setW_succ, SwP.ofT_im, SwP.ofT_nu, SwP.rdV_eq, SwP.rdW_im, SwP.rdW_fz, SwP.rdW_l, SwP.rdW_s, SwP.rdW_kf, SwP.rdW_kt, SwP.isMu_eq, SwP.isMuW_l, SwP.isMuW_pop, SwP.isMuW_ix, SwP.isMuW_lix, SwP.isMuW_add, SwP.isMuW_im, SwP.isMuW_fz, SwP.storeAt_im, SwP.storeW_0, SwP.storeW_1, SwP.aug_add, SwP.aug_sub, SwP.retV_m, SwP.retV_im, SwP.retV_mt, SwP.retV_fz, SwP.agsOk_nil, SwP.agsOk_n, SwP.agsOk_s, SwP.ws_nil, SwP.ws_cons, SwP.gb_nil, SwP.gb_n, SwP.gb_s, SwP.gbW_m, SwP.gbW_fT, SwP.gbW_fF, SwP.give_n, SwP.give_t, SwP.give_l, SwP.give_p, SwP.gives_nil, SwP.gives_cons, SwP.givesK_s, SwP.wipe_nil, SwP.wipe_cons, SwP.unw_nil, SwP.unw_cons, SwP.b_add, SwP.b_sub, SwP.b_mul, SwP.mulOk_l, SwP.mulOk_r, SwP.b_fdiv, SwP.b_mod, SwP.b_pow18, SwP.c_lt, SwP.c_le, SwP.c_gt, SwP.c_ge, SwP.c_eqI, SwP.c_neI, SwP.c_isN, SwP.c_isnN, SwP.t_bl, SwP.t_int, SwP.t_tup, SwP.t_lst, SwP.t_nu, SwP.t_non, SwP.d_im, SwP.d_nu, SwP.intOf_i, SwP.seq_t, SwP.seq_l, SwP.seq_n, SwP.ix_t, SwP.ix_l, SwP.ix_n, SwP.atIx_0, SwP.atIx_1, SwP.atIx_2, SwP.atIx_m1, SwP.sl_t, SwP.sl_l, SwP.sl_n, SwP.rv_t, SwP.rv_l, SwP.rv_n, SwP.int_b, SwP.int_i, SwP.len_t, SwP.len_l, SwP.len_n, SwP.tuple_t, SwP.tuple_l, SwP.tuple_n, SwP.list_t, SwP.list_l, SwP.list_n, SwP.max_i, SwP.min_i, SwP.isi_ii, SwP.isi_ib, SwP.isi_bb, SwP.isi_tt, SwP.w_range, SwP.w_zipT, SwP.w_zipL, SwP.w_enumT, SwP.w_enumL, SwP.w_revT, List.getElem?_cons_zero, List.getElem?_cons_succ, List.contains_nil, List.contains_cons, Bool.not_true, Bool.not_false, Bool.true_and, Bool.and_true, Bool.false_or, Bool.or_false, List.getD_cons_zero, List.getD_cons_succ, Option.map_some, Int.reduceNeg, Nat.reduceLT, Nat.reduceLeDiff, Int.reduceLT, Int.reduceLE, Int.reduceEq, Int.reduceAdd, Int.reduceSub, Int.reduceMul, Nat.reduceAdd, Nat.reduceBEq, Nat.reduceEqDiff, decide_true, decide_false, SwP.mkTup_eq, SwP.mkLst_eq, SwP.b_addT, SwP.b_addNN, SwP.b_addIN, SwP.b_addNI, SwP.mt_append, SwP.mt_popAt, SwP.mt_pop, SwP.col_t, SwP.col_l, List.length_cons, List.length_nil, SwP.nums_len, SwP.prs_len, SwP.upto_len, SL, SwP.range_1, SwP.sorted_prs, SwP.sorted_prsI, SwP.lcIf_nil, SwP.lcIf_no, SwP.lcIf_cmp, SwP.lcIf_chain, SwP.lcIf_an, SwP.lcIf_oo, SwP.lcIf_call, SwP.c_neNN, SwP.c_eqNN, SwP.cut_takeI, SwP.cut_dropI, SwP.cut_m1, Int.reduceToNat, eq_self, Int.neg_neg, Int.toNat_natCast, wr_ok]
      rw [hw]
      exact ⟨rfl, rfl⟩
  rw [e, h1, h2]
end SwK

set_option linter.all false
set_option maxRecDepth 100000
namespace SwK
open Sw SwP
/-- where a thing ends -/
def wend : List (List (Nat × Nat)) → List (List Nat) → Nat → Nat
  | s :: sts, w :: ws, x => wend sts ws (acr s w x)
  | _, _, x => x
theorem way_end : ∀ {sts : List (List (Nat × Nat))} {us : List (List Nat)} {x : Nat}, ∃ ps, way sts us x = ps ++ [wend sts us x]
  | [], _, x => ⟨[], rfl⟩
  | _ :: _, [], x => ⟨[], rfl⟩
  | s :: sts, w :: us, x => by
    obtain ⟨ps, h⟩ := way_end (sts := sts) (us := us) (x := acr s w x)
    exact ⟨x :: ps, by simp [way, wend, h]⟩
theorem way_m1 {sts : List (List (Nat × Nat))} {us : List (List Nat)} {x : Nat} : atIx (nums (way sts us x)) (-1) = some (.int (wend sts us x : Int)) := by
  obtain ⟨ps, h⟩ := way_end (sts := sts) (us := us) (x := x)
  rw [h, nums_app]
  exact atIx_m1
theorem way_app : ∀ {A C : List (List (Nat × Nat))} {U V : List (List Nat)} {x : Nat}, U.length = A.length → way (A ++ C) (U ++ V) x = (way A U x).dropLast ++ way C V (wend A U x)
  | [], C, [], V, x, _ => by simp [way, wend]
  | [], C, _ :: _, V, x, h => by simp at h
  | _ :: _, C, [], V, x, h => by simp at h
  | a :: A, C, u :: U, V, x, h => by
    have ih := way_app (A := A) (C := C) (U := U) (V := V) (x := acr a u x) (by simpa using h)
    obtain ⟨ps, hp⟩ := way_end (sts := A) (us := U) (x := acr a u x)
    have hne : way A U (acr a u x) ≠ [] := by rw [hp]; simp
    simp only [List.cons_append, way, wend, ih]
    rw [List.dropLast_cons_of_ne_nil hne]
    rfl
theorem wend_app : ∀ {A C : List (List (Nat × Nat))} {U V : List (List Nat)} {x : Nat}, U.length = A.length → wend (A ++ C) (U ++ V) x = wend C V (wend A U x)
  | [], C, [], V, x, _ => by simp [wend]
  | [], C, _ :: _, V, x, h => by simp at h
  | _ :: _, C, [], V, x, h => by simp at h
  | a :: A, C, u :: U, V, x, h => by
    simp only [List.cons_append, wend]
    exact wend_app (by simpa using h)
/-! ### a stage -/
theorem acr_cases : ∀ {s : List (Nat × Nat)} {w : List Nat} {x : Nat}, acr s w x = x ∨ ∃ p ∈ s, (x = p.1 ∨ x = p.2) ∧ acr s w x = p.1 + p.2 - x
  | [], _, x => .inl (by cases ‹List Nat› <;> rfl)
  | _ :: _, [], x => .inl rfl
  | p :: s, k :: w, x => by
    by_cases h : k = 1 ∧ (x = p.1 ∨ x = p.2)
    · exact .inr ⟨p, by simp, h.2, acr_hit h⟩
    · rw [acr_skip h]
      rcases acr_cases (s := s) (w := w) (x := x) with h2 | ⟨q, hq, h2⟩
      · exact .inl h2
      · exact .inr ⟨q, by simp [hq], h2⟩
theorem acr_lt {s : List (Nat × Nat)} {w : List Nat} {x m : Nat} (h : ∀ p ∈ s, p.1 < p.2 ∧ p.2 < m) (hx : x < m) : acr s w x < m := by
  rcases acr_cases (s := s) (w := w) (x := x) with h2 | ⟨q, hq, h1, h2⟩
  · rw [h2]; exact hx
  · have := h q hq
    omega
theorem acr_out {s : List (Nat × Nat)} {w : List Nat} {x : Nat} (h : ∀ p ∈ s, x ≠ p.1 ∧ x ≠ p.2) : acr s w x = x := by
  rcases acr_cases (s := s) (w := w) (x := x) with h2 | ⟨q, hq, h1, h2⟩
  · exact h2
  · have := h q hq
    omega
theorem flat_out {s : List (Nat × Nat)} {x : Nat} (h : x ∉ flatP s) : ∀ p ∈ s, x ≠ p.1 ∧ x ≠ p.2 := fun p hp =>
  ⟨fun e => h (List.mem_flatMap.mpr ⟨p, hp, by simp [e]⟩), fun e => h (List.mem_flatMap.mpr ⟨p, hp, by simp [e]⟩)⟩
theorem flatP_cons {p : Nat × Nat} {s : List (Nat × Nat)} : flatP (p :: s) = p.1 :: p.2 :: flatP s := rfl
theorem acr_flat {s : List (Nat × Nat)} {w : List Nat} {x : Nat} : acr s w x = x ∨ acr s w x ∈ flatP s := by
  rcases acr_cases (s := s) (w := w) (x := x) with h2 | ⟨q, hq, h1, h2⟩
  · exact .inl h2
  · right
    refine List.mem_flatMap.mpr ⟨q, hq, ?_⟩
    rw [h2]
    rcases h1 with rfl | rfl
    · simp [Nat.add_sub_cancel_left]
    · simp
theorem acr_inv : ∀ {s : List (Nat × Nat)} {w : List Nat} {x : Nat}, (flatP s).Nodup → acr s w (acr s w x) = x
  | [], _, x, _ => by cases ‹List Nat› <;> rfl
  | _ :: _, [], x, _ => rfl
  | p :: s, k :: w, x, h => by
    rw [flatP_cons, List.nodup_cons, List.nodup_cons] at h
    obtain ⟨h1, h2, h3⟩ := h
    have h12 : p.1 ≠ p.2 := fun e => h1 (by rw [e]; simp)
    by_cases c : k = 1 ∧ (x = p.1 ∨ x = p.2)
    · rw [acr_hit c, acr_hit ⟨c.1, by omega⟩]
      omega
    · rw [acr_skip c, acr_skip, acr_inv h3]
      intro c2
      rcases acr_flat (s := s) (w := w) (x := x) with e | e
      · rw [e] at c2
        exact c c2
      · rcases c2.2 with z | z
        · rw [z] at e
          exact h1 (List.mem_cons_of_mem _ e)
        · rw [z] at e
          exact h2 e
theorem acr_app1 : ∀ {s t : List (Nat × Nat)} {w v : List Nat} {x : Nat}, w.length = s.length → (∀ p ∈ t, x ≠ p.1 ∧ x ≠ p.2) → acr (s ++ t) (w ++ v) x = acr s w x
  | [], t, [], v, x, _, h => by
    show acr t v x = x
    exact acr_out h
  | [], t, _ :: _, v, x, h, _ => by simp at h
  | _ :: _, t, [], v, x, h, _ => by simp at h
  | p :: s, t, k :: w, v, x, hl, h => by
    simp only [List.cons_append, acr]
    rw [acr_app1 (by simpa using hl) h]
theorem acr_app2 : ∀ {s t : List (Nat × Nat)} {w v : List Nat} {x : Nat}, w.length = s.length → (∀ p ∈ s, x ≠ p.1 ∧ x ≠ p.2) → acr (s ++ t) (w ++ v) x = acr t v x
  | [], t, [], v, x, _, h => rfl
  | [], t, _ :: _, v, x, h, _ => by simp at h
  | _ :: _, t, [], v, x, h, _ => by simp at h
  | p :: s, t, k :: w, v, x, hl, h => by
    simp only [List.cons_append]
    have hp := h p (by simp)
    rw [acr_skip (fun c => by omega)]
    exact acr_app2 (by simpa using hl) fun q hq => h q (by simp [hq])
/-- a stage, its wires so many more -/
def shf (m : Nat) (s : List (Nat × Nat)) : List (Nat × Nat) := s.map fun p => (p.1 + m, p.2 + m)
theorem shf_len {m : Nat} {s : List (Nat × Nat)} : (shf m s).length = s.length := by simp [shf]
theorem acr_shf {m : Nat} : ∀ {t : List (Nat × Nat)} {v : List Nat} {x : Nat}, acr (shf m t) v (x + m) = acr t v x + m
  | [], _, x => by cases ‹List Nat› <;> rfl
  | _ :: _, [], x => rfl
  | p :: t, k :: v, x => by
    have e : shf m (p :: t) = (p.1 + m, p.2 + m) :: shf m t := rfl
    rw [e]
    by_cases c : k = 1 ∧ (x = p.1 ∨ x = p.2)
    · have c2 : k = 1 ∧ (x + m = p.1 + m ∨ x + m = p.2 + m) := ⟨c.1, by omega⟩
      rw [acr_hit c, acr_hit (p := (p.1 + m, p.2 + m)) c2]
      show p.1 + m + (p.2 + m) - (x + m) = _
      omega
    · have c2 : ¬ (k = 1 ∧ (x + m = p.1 + m ∨ x + m = p.2 + m)) := fun z => c ⟨z.1, by omega⟩
      rw [acr_skip c, acr_skip (p := (p.1 + m, p.2 + m)) c2, acr_shf]
/-! ### nets beside one another -/
def bes (m : Nat) : List (List (Nat × Nat)) → List (List (Nat × Nat)) → List (List (Nat × Nat))
  | a :: A, b :: B => (a ++ shf m b) :: bes m A B
  | a :: A, [] => a :: bes m A []
  | [], b :: B => shf m b :: bes m [] B
  | [], [] => []
def tog : List (List Nat) → List (List Nat) → List (List Nat)
  | a :: A, b :: B => (a ++ b) :: tog A B
  | a :: A, [] => a :: tog A []
  | [], b :: B => b :: tog [] B
  | [], [] => []
def stAt {α : Type} (sts : List (List α)) (i : Nat) : List α := (sts[i]?).getD []
theorem bes_len {m : Nat} : ∀ {A B : List (List (Nat × Nat))}, (bes m A B).length = max A.length B.length
  | [], [] => by simp [bes]
  | [], b :: B => by
    have ih := bes_len (m := m) (A := []) (B := B)
    simp only [bes, List.length_cons, ih, List.length_nil]
    omega
  | a :: A, [] => by
    have ih := bes_len (m := m) (A := A) (B := [])
    simp only [bes, List.length_cons, ih, List.length_nil]
    omega
  | a :: A, b :: B => by
    have ih := bes_len (m := m) (A := A) (B := B)
    simp only [bes, List.length_cons, ih, List.length_nil]
    omega
theorem tog_len : ∀ {A B : List (List Nat)}, (tog A B).length = max A.length B.length
  | [], [] => by simp [tog]
  | [], b :: B => by
    have ih := tog_len (A := []) (B := B)
    simp only [tog, List.length_cons, ih, List.length_nil]
    omega
  | a :: A, [] => by
    have ih := tog_len (A := A) (B := [])
    simp only [tog, List.length_cons, ih, List.length_nil]
    omega
  | a :: A, b :: B => by
    have ih := tog_len (A := A) (B := B)
    simp only [tog, List.length_cons, ih, List.length_nil]
    omega
theorem bes_get {m : Nat} : ∀ {A B : List (List (Nat × Nat))} {i : Nat} (h : i < (bes m A B).length), (bes m A B)[i] = stAt A i ++ shf m (stAt B i)
  | [], [], i, h => by simp [bes] at h
  | [], b :: B, 0, h => by simp [bes, stAt]
  | [], b :: B, i + 1, h => by
    have h2 : i < (bes m [] B).length := by simp only [bes, List.length_cons] at h; omega
    have := bes_get h2
    simpa [bes, stAt] using this
  | a :: A, [], 0, h => by simp [bes, stAt, shf]
  | a :: A, [], i + 1, h => by
    have h2 : i < (bes m A []).length := by simp only [bes, List.length_cons] at h; omega
    have := bes_get h2
    simpa [bes, stAt] using this
  | a :: A, b :: B, 0, h => by simp [bes, stAt]
  | a :: A, b :: B, i + 1, h => by
    have h2 : i < (bes m A B).length := by simp only [bes, List.length_cons] at h; omega
    have := bes_get h2
    simpa [bes, stAt] using this
theorem tog_get : ∀ {A B : List (List Nat)} {i : Nat} (h : i < (tog A B).length), (tog A B)[i] = stAt A i ++ stAt B i
  | [], [], i, h => by simp [tog] at h
  | [], b :: B, 0, h => by simp [tog, stAt]
  | [], b :: B, i + 1, h => by
    have h2 : i < (tog [] B).length := by simp only [tog, List.length_cons] at h; omega
    have := tog_get h2
    simpa [tog, stAt] using this
  | a :: A, [], 0, h => by simp [tog, stAt]
  | a :: A, [], i + 1, h => by
    have h2 : i < (tog A []).length := by simp only [tog, List.length_cons] at h; omega
    have := tog_get h2
    simpa [tog, stAt] using this
  | a :: A, b :: B, 0, h => by simp [tog, stAt]
  | a :: A, b :: B, i + 1, h => by
    have h2 : i < (tog A B).length := by simp only [tog, List.length_cons] at h; omega
    have := tog_get h2
    simpa [tog, stAt] using this
def Low (m : Nat) (A : List (List (Nat × Nat))) : Prop := ∀ s ∈ A, ∀ p ∈ s, p.1 < p.2 ∧ p.2 < m
theorem wend_bes1 {m : Nat} : ∀ {A B : List (List (Nat × Nat))} {U V : List (List Nat)} {x : Nat}, Low m A → U.map List.length = A.map List.length → V.map List.length = B.map List.length → x < m → wend (bes m A B) (tog U V) x = wend A U x
  | [], [], [], [], x, _, _, _, _ => by simp [bes, tog]
  | [], [], _ :: _, _, x, _, h, _, _ => by simp at h
  | [], [], [], _ :: _, x, _, _, h, _ => by simp at h
  | [], b :: B, _ :: _, _, x, _, h, _, _ => by simp at h
  | [], b :: B, [], [], x, _, _, h, _ => by simp at h
  | [], b :: B, [], v :: V, x, hA, hU, hV, hx => by
    have ih := wend_bes1 (m := m) (A := []) (B := B) (U := []) (V := V) (x := x) hA hU (by simp only [List.map_cons, List.cons.injEq] at hV; exact hV.2) hx
    simp only [bes, tog, wend]
    rw [acr_out, ih]
    · rfl
    · intro p hp
      simp only [shf, List.mem_map] at hp
      obtain ⟨q, _, rfl⟩ := hp
      exact ⟨by show x ≠ q.1 + m; omega, by show x ≠ q.2 + m; omega⟩
  | a :: A, _, [], _, x, _, h, _, _ => by simp at h
  | a :: A, [], u :: U, _ :: _, x, _, _, h, _ => by simp at h
  | a :: A, [], u :: U, [], x, hA, hU, hV, hx => by
    simp only [List.map_cons, List.cons.injEq] at hU
    simp only [bes, tog, wend]
    exact wend_bes1 (fun s hs => hA s (by simp [hs])) hU.2 hV (acr_lt (hA a (by simp)) hx)
  | a :: A, b :: B, u :: U, [], x, _, _, h, _ => by simp at h
  | a :: A, b :: B, u :: U, v :: V, x, hA, hU, hV, hx => by
    simp only [List.map_cons, List.cons.injEq] at hU hV
    simp only [bes, tog, wend]
    rw [acr_app1 hU.1]
    · exact wend_bes1 (fun s hs => hA s (by simp [hs])) hU.2 hV.2 (acr_lt (hA a (by simp)) hx)
    · intro p hp
      simp only [shf, List.mem_map] at hp
      obtain ⟨q, _, rfl⟩ := hp
      exact ⟨by show x ≠ q.1 + m; omega, by show x ≠ q.2 + m; omega⟩
theorem wend_bes2 {m : Nat} : ∀ {A B : List (List (Nat × Nat))} {U V : List (List Nat)} {x : Nat}, Low m A → U.map List.length = A.map List.length → V.map List.length = B.map List.length → wend (bes m A B) (tog U V) (x + m) = wend B V x + m
  | [], [], [], [], x, _, _, _ => by simp [bes, tog, wend]
  | [], [], _ :: _, _, x, _, h, _ => by simp at h
  | [], [], [], _ :: _, x, _, _, h => by simp at h
  | [], b :: B, _ :: _, _, x, _, h, _ => by simp at h
  | [], b :: B, [], [], x, _, _, h => by simp at h
  | [], b :: B, [], v :: V, x, hA, hU, hV => by
    simp only [bes, tog, wend]
    rw [acr_shf]
    exact wend_bes2 (m := m) (A := []) (B := B) (U := []) (V := V) hA hU (by simp only [List.map_cons, List.cons.injEq] at hV; exact hV.2)
  | a :: A, _, [], _, x, _, h, _ => by simp at h
  | a :: A, [], u :: U, _ :: _, x, _, _, h => by simp at h
  | a :: A, [], u :: U, [], x, hA, hU, hV => by
    simp only [List.map_cons, List.cons.injEq] at hU
    simp only [bes, tog, wend]
    rw [acr_out]
    · exact wend_bes2 (fun s hs => hA s (by simp [hs])) hU.2 hV
    · intro p hp
      have := hA a (by simp) p hp
      omega
  | a :: A, b :: B, u :: U, [], x, _, _, h => by simp at h
  | a :: A, b :: B, u :: U, v :: V, x, hA, hU, hV => by
    simp only [List.map_cons, List.cons.injEq] at hU hV
    simp only [bes, tog, wend]
    rw [acr_app2 hU.1, acr_shf]
    · exact wend_bes2 (fun s hs => hA s (by simp [hs])) hU.2 hV.2
    · intro p hp
      have := hA a (by simp) p hp
      omega
theorem wend_lt {m : Nat} : ∀ {A : List (List (Nat × Nat))} {U : List (List Nat)} {x : Nat}, Low m A → x < m → wend A U x < m
  | [], _, x, _, h => h
  | _ :: _, [], x, _, h => h
  | a :: A, u :: U, x, hA, h => wend_lt (A := A) (U := U) (fun s hs => hA s (by simp [hs])) (acr_lt (hA a (by simp)) h)
theorem wend_inj : ∀ {A : List (List (Nat × Nat))} {U : List (List Nat)} {x y : Nat}, (∀ s ∈ A, (flatP s).Nodup) → wend A U x = wend A U y → x = y
  | [], _, x, y, _, h => h
  | _ :: _, [], x, y, _, h => h
  | a :: A, u :: U, x, y, hA, h => by
    have := wend_inj (A := A) (U := U) (fun s hs => hA s (by simp [hs])) h
    rw [← acr_inv (s := a) (w := u) (x := x) (hA a (by simp)), this, acr_inv (hA a (by simp))]
end SwK

set_option linter.all false
set_option maxRecDepth 100000
namespace SwK
open Sw SwP
theorem prs_take {s : List (Nat × Nat)} {i : Nat} (h : i < s.length) : prs (s.take i) ++ [.tup [.int (s[i].1 : Int), .int (s[i].2 : Int)]] = prs (s.take (i + 1)) := by
  rw [List.take_succ_eq_append_getElem h, prs_app]
  rfl
theorem stg_take {s : List (List (Nat × Nat))} {i : Nat} (h : i < s.length) : stg (s.take i) ++ [.tup (prs s[i])] = stg (s.take (i + 1)) := by
  rw [List.take_succ_eq_append_getElem h, ← stg_snoc]
theorem wys_take {s : List (List Nat)} {i : Nat} (h : i < s.length) : wys (s.take i) ++ [.tup (nums s[i])] = wys (s.take (i + 1)) := by
  rw [List.take_succ_eq_append_getElem h, ← wys_snoc]
theorem stg_app {a b : List (List (Nat × Nat))} : stg a ++ stg b = stg (a ++ b) := by simp [stg]
theorem wys_app {a b : List (List Nat)} : wys a ++ wys b = wys (a ++ b) := by simp [wys]
theorem stg_rev {a : List (List (Nat × Nat))} : (stg a).reverse = stg a.reverse := by simp [stg]
theorem wys_rev {a : List (List Nat)} : (wys a).reverse = wys a.reverse := by simp [wys]
theorem stAt_le {α : Type} {A : List (List α)} {i k : Nat} (h : ∀ s ∈ A, s.length ≤ k) : (stAt A i).length ≤ k := by
  unfold stAt
  cases hi : A[i]? with
  | none => simp
  | some s => exact h s (List.mem_of_getElem? hi)
theorem stAt_map {α β : Type} {A : List (List α)} {i : Nat} {f : List α → List β} (h : f [] = []) : stAt (A.map f) i = f (stAt A i) := by
  unfold stAt
  rw [List.getElem?_map]
  cases A[i]? with
  | none => simp [h]
  | some s => simp
/-! ### repr of nets and settings -/
def NetOk (m : Nat) (sts : List (List (Nat × Nat))) : Prop := m < 1000 ∧ sts.length ≤ 100 ∧ ∀ s ∈ sts, s.length ≤ 1000 ∧ ∀ p ∈ s, p.1 < 1000 ∧ p.2 < 1000
def netD (m : Nat) (sts : List (List (Nat × Nat))) : D := .tup [.int (m : Int), .tup (stg sts)]
theorem rp_prs {s : List (Nat × Nat)} (h : ∀ p ∈ s, p.1 < 1000 ∧ p.2 < 1000) : Rp (.tup (prs s)) (s.length * 15 + 3) := by
  have := rp_tup (xs := prs s) (w := 13) fun x hx => by
    simp only [prs, List.mem_map] at hx
    obtain ⟨a, ha, rfl⟩ := hx
    have := rp_tup (xs := [.int (a.1 : Int), .int (a.2 : Int)]) (w := 3) fun y hy => by
      simp only [List.mem_cons, List.not_mem_nil, or_false] at hy
      rcases hy with rfl | rfl
      · exact rp_int (h a ha).1
      · exact rp_int (h a ha).2
    exact this
  rw [prs_len] at this
  exact this
theorem rp_stg {sts : List (List (Nat × Nat))} (h : ∀ s ∈ sts, s.length ≤ 1000 ∧ ∀ p ∈ s, p.1 < 1000 ∧ p.2 < 1000) : Rp (.tup (stg sts)) (sts.length * 15005 + 3) := by
  have := rp_tup (xs := stg sts) (w := 15003) fun x hx => by
    simp only [stg, List.mem_map] at hx
    obtain ⟨a, ha, rfl⟩ := hx
    exact (rp_prs (h a ha).2).mono (by have := (h a ha).1; omega)
  rw [stg_len] at this
  exact this
theorem rp_net {m : Nat} {sts : List (List (Nat × Nat))} (h : NetOk m sts) : Rp (netD m sts) 3001021 := by
  have a := rp_stg h.2.2
  have := rp_tup (xs := [.int (m : Int), .tup (stg sts)]) (w := 1500503) fun y hy => by
    simp only [List.mem_cons, List.not_mem_nil, or_false] at hy
    rcases hy with rfl | rfl
    · exact (rp_int h.1).mono (by omega)
    · exact a.mono (by have := h.2.1; omega)
  exact this.mono (by show 2 * (1500503 + 2) + 3 ≤ _; omega)
theorem fine_prs {s : List (Nat × Nat)} : Fine 2 (.tup (prs s)) := .tup fun x hx => by
  simp only [prs, List.mem_map] at hx
  obtain ⟨a, ha, rfl⟩ := hx
  refine .tup fun y hy => ?_
  simp only [List.mem_cons, List.not_mem_nil, or_false] at hy
  rcases hy with rfl | rfl <;> exact .int _
theorem fine_stg {sts : List (List (Nat × Nat))} : Fine 3 (.tup (stg sts)) := .tup fun x hx => by
  simp only [stg, List.mem_map] at hx
  obtain ⟨a, ha, rfl⟩ := hx
  exact fine_prs
theorem fine_net {m : Nat} {sts : List (List (Nat × Nat))} : Fine 4 (netD m sts) := .tup fun x hx => by
  simp only [List.mem_cons, List.not_mem_nil, or_false] at hx
  rcases hx with rfl | rfl
  · exact .int _
  · exact fine_stg
theorem repr_net {m : Nat} {sts : List (List (Nat × Nat))} (h : NetOk m sts) : bifn .repr [.im (.tup [.int (m : Int), .tup (stg sts)])] = some (.im (.str (D.repr (netD m sts)))) := repr_of (rp_net h) (by omega) fine_net (by omega)
theorem ne_reprNet {m : Nat} {sts : List (List (Nat × Nat))} (h : NetOk m sts) : cmpop .ne (.im (.str (D.repr (netD m sts)))) (.im (.str (D.repr (netD m sts)))) = some false := ne_repr (rp_net h)
theorem eq_reprNet {m : Nat} {sts : List (List (Nat × Nat))} (h : NetOk m sts) : cmpop .eq (.im (.str (D.repr (netD m sts)))) (.im (.str (D.repr (netD m sts)))) = some true := eq_repr (rp_net h)
/-- a net and a setting of it, as drawn -/
structure NS (m : Nat) (A : List (List (Nat × Nat))) (U : List (List Nat)) : Prop where
  m0 : 0 < m
  m32 : m ≤ 32
  len : A.length ≤ 50
  st : ∀ s ∈ A, St m s ∧ s.length ≤ m / 2
  fit : Fit A U
section
variable {m k : Nat} {A B : List (List (Nat × Nat))} {U V : List (List Nat)}
theorem NS.low (h : NS m A U) : Low m A := fun s hs => (h.st s hs).1.lt
theorem NS.le (h : NS m A U) : ∀ s ∈ A, s.length ≤ 1000 := fun s hs => by have := (h.st s hs).2; have := h.m32; omega
theorem NS.ulen (h : NS m A U) : U.length = A.length := by simpa using congrArg List.length h.fit.1
theorem NS.ule (h : NS m A U) : ∀ s ∈ U, s.length ≤ 1000 := fun u hu => by
  obtain ⟨i, hi, rfl⟩ := List.mem_iff_getElem.mp hu
  have hi2 : i < A.length := by rw [← h.ulen]; exact hi
  have e : (U.map List.length)[i]'(by simpa using hi) = (A.map List.length)[i]'(by simpa using hi2) := by simp only [h.fit.1]
  simp only [List.getElem_map] at e
  rw [e]
  exact h.le _ (List.getElem_mem hi2)
theorem stAt_mem {α : Type} {A : List (List α)} {i : Nat} {p : α} (h : p ∈ stAt A i) : ∃ s ∈ A, p ∈ s := by
  unfold stAt at h
  cases hi : A[i]? with
  | none => rw [hi] at h; cases h
  | some s => rw [hi] at h; exact ⟨s, List.mem_of_getElem? hi, h⟩
end
/-- a drawn net -/
structure NN (m : Nat) (A : List (List (Nat × Nat))) : Prop where
  m0 : 0 < m
  m32 : m ≤ 32
  len : A.length ≤ 20
  st : ∀ s ∈ A, St m s ∧ s.length ≤ m / 2
theorem NN.ns {m : Nat} {A : List (List (Nat × Nat))} {U : List (List Nat)} (h : NN m A) (f : Fit A U) : NS m A U := ⟨h.m0, h.m32, by have := h.len; omega, h.st, f⟩
theorem NN.set (n : Nat) {d : List D} (hd : StB d) {m : Nat} {A : List (List (Nat × Nat))} (h : NN m A) :
    Calls (callD prog (n + 2)) 7 [.mu true (.l d), .im (.tup [.int (m : Int), .tup (stg A)])] fun t ws => ∃ (us : List (List Nat)) (d' : List D), t = .im (.tup (wys us)) ∧ Fit A us ∧ ws = [.mu true (.l d'), .im (.tup [.int (m : Int), .tup (stg A)])] ∧ StB d' :=
  settingB n hd (by have := h.len; omega) fun s hs => by have := (h.st s hs).2; have := h.m32; omega
end SwK

set_option linter.all false
set_option maxRecDepth 100000
namespace SwK
open Sw SwP
theorem way_head : ∀ {A : List (List (Nat × Nat))} {U : List (List Nat)} {x : Nat}, ∃ r, way A U x = x :: r
  | [], _, x => ⟨[], rfl⟩
  | _ :: _, [], x => ⟨[], rfl⟩
  | s :: A, w :: U, x => ⟨_, rfl⟩
theorem way_back : ∀ {A : List (List (Nat × Nat))} {U : List (List Nat)} {x : Nat}, (∀ s ∈ A, (flatP s).Nodup) → U.length = A.length → way A.reverse U.reverse (wend A U x) = (way A U x).reverse
  | [], [], x, _, _ => rfl
  | [], _ :: _, x, _, h => by cases h
  | _ :: _, [], x, _, h => by cases h
  | s :: A, w :: U, x, hn, hl => by
    have hl : U.length = A.length := by simpa using hl
    have ih := way_back (A := A) (U := U) (x := acr s w x) (fun t ht => hn t (List.mem_cons_of_mem _ ht)) hl
    obtain ⟨r, hr⟩ := way_head (A := A) (U := U) (x := acr s w x)
    have hw : wend (s :: A) (w :: U) x = wend A U (acr s w x) := rfl
    rw [hw, List.reverse_cons, List.reverse_cons, way_app (by simp [hl])]
    obtain ⟨ps, hp⟩ := way_end (sts := A.reverse) (us := U.reverse) (x := wend A U (acr s w x))
    rw [ih, hr, List.reverse_cons] at hp
    have hp2 := List.append_inj' hp rfl
    have he : wend A.reverse U.reverse (wend A U (acr s w x)) = acr s w x := by
      have := hp2.2
      simp only [List.cons.injEq, and_true] at this
      exact this.symm
    rw [ih, he, hr, List.reverse_cons]
    have h1 : way [s] [w] (acr s w x) = [acr s w x, acr s w (acr s w x)] := rfl
    rw [h1, acr_inv (hn s List.mem_cons_self)]
    have h2 : way (s :: A) (w :: U) x = x :: way A U (acr s w x) := rfl
    rw [h2, hr]
    simp
theorem rp_wys {us : List (List Nat)} (h : ∀ w ∈ us, w.length ≤ 1000 ∧ ∀ k ∈ w, k < 1000) : Rp (.tup (wys us)) (us.length * 5005 + 3) := by
  have := rp_tup (xs := wys us) (w := 5003) fun x hx => by
    simp only [wys, List.mem_map] at hx
    obtain ⟨a, ha, rfl⟩ := hx
    exact (rp_nums (h a ha).2).mono (by have := (h a ha).1; omega)
  rw [wys_len] at this
  exact this
theorem fine_wys {us : List (List Nat)} : Fine 2 (.tup (wys us)) := .tup fun x hx => by
  simp only [wys, List.mem_map] at hx
  obtain ⟨a, ha, rfl⟩ := hx
  exact .tup fine_nums
theorem aboutB (n : Nat) {m : Nat} {A : List (List (Nat × Nat))} : callD prog (n + 1) 0 [.im (.tup [.int (m : Int), .tup (stg A)])] = some (some (.im (.tup [.int (m : Int), .tup (stg A.reverse)]), [.im (.tup [.int (m : Int), .tup (stg A)])])) := by
  obtain ⟨t, ws, e, h1, h2⟩ : Calls (callD prog (n + 1)) 0 [.im (.tup [.int (m : Int), .tup (stg A)])] fun t ws => t = .im (.tup [.int (m : Int), .tup (stg A.reverse)]) ∧ ws = [.im (.tup [.int (m : Int), .tup (stg A)])] := by
    refine calls_of (fn := f_about) rfl rfl ?_
    show WR (sx _ f_about.body [.im (.tup [.int (m : Int), .tup (stg A)]), .un, .un]) _
    unfold f_about
    simp -implicitDefEqProofs only [SwP.bnd_ok, SwP.bnd_bad, SwP.rof_some, SwP.ev_c, SwP.ev_v, SwP.kOp2, SwP.kOp, SwP.ev_op, SwP.kCmp2, SwP.kCmp, SwP.ev_cmp, SwP.cmpR_eq, SwP.mapB, SwP.mapD, SwP.mapO, SwP.kChain, SwP.kChain2, SwP.kChain3, SwP.kChain4, SwP.ev_chain, SwP.kNeg, SwP.ev_neg, SwP.tst_eq, SwP.kTru, SwP.kNo, SwP.ev_no, SwP.kAn, SwP.kAn2, SwP.ev_an, SwP.kOo, SwP.kOo2, SwP.ev_oo, SwP.kIfE, SwP.ev_ite, SwP.ev_tup, SwP.ev_lst, SwP.kIx, SwP.kIx2, SwP.ev_ix, SwP.kSl, SwP.kSl2, SwP.kSl3, SwP.ev_sl, SwP.kRv, SwP.ev_rv, SwP.kCall_eq, SwP.dcIf_t, SwP.dcAt_eq, SwP.dcBack_eq, SwP.ev_call, SwP.kBi, SwP.ev_len, SwP.ev_tuple, SwP.ev_list, SwP.ev_sorted, SwP.ev_sum, SwP.ev_repr, SwP.ev_isinst, SwP.ev_max, SwP.ev_min, SwP.ev_set, SwP.ev_int, SwP.kMtV2, SwP.kMtV, SwP.mtAt_t, SwP.mtAt_f, SwP.kMtS_eq, SwP.ev_mt, SwP.ev_lc, SwP.ev_col, SwP.kCol, SwP.evs_nil, SwP.evs_cons, SwP.kEvs, SwP.kEvs2, SwP.evt_nil, SwP.evt_cons, SwP.kEvt, SwP.kEvt2, SwP.evo_nil, SwP.evo_c, SwP.evo_v, SwP.evo_op, SwP.evo_neg, SwP.evo_call, SwP.kBd, SwP.evi_range, SwP.evi_zip, SwP.evi_enum, SwP.evi_rev, SwP.evi_v, SwP.evi_c, SwP.evi_ix, SwP.evi_sl, SwP.evi_tup, SwP.evi_lst, SwP.evi_call, SwP.evi_op, SwP.evi_rv, SwP.evi_lc, SwP.evi_sorted, SwP.kSeqOf, SwP.kWalk, SwP.eva_nil, SwP.eva_v, SwP.eva_c, SwP.eva_op, SwP.eva_neg, SwP.eva_ix, SwP.eva_sl, SwP.eva_rv, SwP.eva_tup, SwP.eva_lst, SwP.eva_call, SwP.eva_bi, SwP.eva_lc, SwP.eva_col, SwP.eva_ite, SwP.eva_mt, SwP.kAg, SwP.kAg2, SwP.kAgD, SwP.kAgM, SwP.agM2_mu, SwP.agV_mu, SwP.agV_im, SwP.agV_fz, SwP.sx_skip, SwP.sx_seq, SwP.kSeq_nx, SwP.kSeq_rt, SwP.kSeq_bk, SwP.kSeq_ct, SwP.kPut, SwP.kGive, SwP.sx_asgN, SwP.sx_asgT, SwP.kSix, SwP.kSix2, SwP.sixAt_t, SwP.sx_six, SwP.kSwp, SwP.kSwp2, SwP.kSwp4, SwP.kSwp5, SwP.swpAt_t, SwP.sx_swp, SwP.augP_s, SwP.kAug2_int, SwP.kAug, SwP.sx_aug, SwP.kEx, SwP.sx_ex, SwP.kRet, SwP.sx_retv, SwP.sx_ite, SwP.kIte_t, SwP.kIte_f, SwP.sx_for, SwP.sx_wh, SwP.sx_brk, SwP.sx_cont, SwP.rt_c, SwP.rt_op, SwP.rt_cmp, SwP.rt_chain, SwP.rt_neg, SwP.rt_no, SwP.rt_an, SwP.rt_oo, SwP.rt_ite, SwP.rt_tup, SwP.rt_lst, SwP.rt_ix, SwP.rt_sl, SwP.rt_rv, SwP.rt_call, SwP.rt_bi, SwP.rt_mt, SwP.rt_lc, SwP.rt_col, SwP.fr_im, SwP.fr_un, SwP.fr_mu, SwP.canSet_zero, SwP.canSet_succ, SwP.put_eq, SwP.putIf_t, SwP.putF_s, SwP.setW_zero, SwP.setW_succ, SwP.ofT_im, SwP.ofT_nu, SwP.rdV_eq, SwP.rdW_im, SwP.rdW_fz, SwP.rdW_l, SwP.rdW_s, SwP.rdW_kf, SwP.rdW_kt, SwP.isMu_eq, SwP.isMuW_l, SwP.isMuW_pop, SwP.isMuW_ix, SwP.isMuW_lix, SwP.isMuW_add, SwP.isMuW_im, SwP.isMuW_fz, SwP.storeAt_im, SwP.storeW_0, SwP.storeW_1, SwP.aug_add, SwP.aug_sub, SwP.retV_m, SwP.retV_im, SwP.retV_mt, SwP.retV_fz, SwP.agsOk_nil, SwP.agsOk_n, SwP.agsOk_s, SwP.ws_nil, SwP.ws_cons, SwP.gb_nil, SwP.gb_n, SwP.gb_s, SwP.gbW_m, SwP.gbW_fT, SwP.gbW_fF, SwP.give_n, SwP.give_t, SwP.give_l, SwP.give_p, SwP.gives_nil, SwP.gives_cons, SwP.givesK_s, SwP.wipe_nil, SwP.wipe_cons, SwP.unw_nil, SwP.unw_cons, SwP.b_add, SwP.b_sub, SwP.b_mul, SwP.mulOk_l, SwP.mulOk_r, SwP.b_fdiv, SwP.b_mod, SwP.b_pow18, SwP.c_lt, SwP.c_le, SwP.c_gt, SwP.c_ge, SwP.c_eqI, SwP.c_neI, SwP.c_isN, SwP.c_isnN, SwP.t_bl, SwP.t_int, SwP.t_tup, SwP.t_lst, SwP.t_nu, SwP.t_non, SwP.d_im, SwP.d_nu, SwP.intOf_i, SwP.seq_t, SwP.seq_l, SwP.seq_n, SwP.ix_t, SwP.ix_l, SwP.ix_n, SwP.atIx_0, SwP.atIx_1, SwP.atIx_2, SwP.atIx_m1, SwP.sl_t, SwP.sl_l, SwP.sl_n, SwP.rv_t, SwP.rv_l, SwP.rv_n, SwP.int_b, SwP.int_i, SwP.len_t, SwP.len_l, SwP.len_n, SwP.tuple_t, SwP.tuple_l, SwP.tuple_n, SwP.list_t, SwP.list_l, SwP.list_n, SwP.max_i, SwP.min_i, SwP.isi_ii, SwP.isi_ib, SwP.isi_bb, SwP.isi_tt, SwP.w_range, SwP.w_zipT, SwP.w_zipL, SwP.w_enumT, SwP.w_enumL, SwP.w_revT, List.getElem?_cons_zero, List.getElem?_cons_succ, List.contains_nil, List.contains_cons, Bool.not_true, Bool.not_false, Bool.true_and, Bool.and_true, Bool.false_or, Bool.or_false, List.getD_cons_zero, List.getD_cons_succ, Option.map_some, Int.reduceNeg, Nat.reduceLT, Nat.reduceLeDiff, Int.reduceLT, Int.reduceLE, Int.reduceEq, Int.reduceAdd, Int.reduceSub, Int.reduceMul, Nat.reduceAdd, Nat.reduceBEq, Nat.reduceEqDiff, decide_true, decide_false, SwP.mkTup_eq, SwP.mkLst_eq, SwP.b_addT, SwP.b_addNN, SwP.b_addIN, SwP.b_addNI, SwP.mt_append, SwP.mt_popAt, SwP.mt_pop, SwP.col_t, SwP.col_l, List.length_cons, List.length_nil, SwP.nums_len, SwP.prs_len, SwP.upto_len, SL, SwP.range_1, SwP.sorted_prs, SwP.sorted_prsI, SwP.lcIf_nil, SwP.lcIf_no, SwP.lcIf_cmp, SwP.lcIf_chain, SwP.lcIf_an, SwP.lcIf_oo, SwP.lcIf_call, SwP.c_neNN, SwP.c_eqNN, SwP.cut_takeI, SwP.cut_dropI, SwP.cut_m1, Int.reduceToNat, eq_self, Int.neg_neg, Int.toNat_natCast, stg_rev, wr_ok]
    exact ⟨rfl, rfl⟩
  rw [e, h1, h2]
theorem aboutS (n : Nat) {U : List (List Nat)} : callD prog (n + 1) 1 [.im (.tup (wys U))] = some (some (.im (.tup (wys U.reverse)), [.im (.tup (wys U))])) := by
  obtain ⟨t, ws, e, h1, h2⟩ : Calls (callD prog (n + 1)) 1 [.im (.tup (wys U))] fun t ws => t = .im (.tup (wys U.reverse)) ∧ ws = [.im (.tup (wys U))] := by
    refine calls_of (fn := f_about_setting) rfl rfl ?_
    show WR (sx _ f_about_setting.body [.im (.tup (wys U))]) _
    unfold f_about_setting
    simp -implicitDefEqProofs only [SwP.bnd_ok, SwP.bnd_bad, SwP.rof_some, SwP.ev_c, SwP.ev_v, SwP.kOp2, SwP.kOp, SwP.ev_op, SwP.kCmp2, SwP.kCmp, SwP.ev_cmp, SwP.cmpR_eq, SwP.mapB, SwP.mapD, SwP.mapO, SwP.kChain, SwP.kChain2, SwP.kChain3, SwP.kChain4, SwP.ev_chain, SwP.kNeg, SwP.ev_neg, SwP.tst_eq, SwP.kTru, SwP.kNo, SwP.ev_no, SwP.kAn, SwP.kAn2, SwP.ev_an, SwP.kOo, SwP.kOo2, SwP.ev_oo, SwP.kIfE, SwP.ev_ite, SwP.ev_tup, SwP.ev_lst, SwP.kIx, SwP.kIx2, SwP.ev_ix, SwP.kSl, SwP.kSl2, SwP.kSl3, SwP.ev_sl, SwP.kRv, SwP.ev_rv, SwP.kCall_eq, SwP.dcIf_t, SwP.dcAt_eq, SwP.dcBack_eq, SwP.ev_call, SwP.kBi, SwP.ev_len, SwP.ev_tuple, SwP.ev_list, SwP.ev_sorted, SwP.ev_sum, SwP.ev_repr, SwP.ev_isinst, SwP.ev_max, SwP.ev_min, SwP.ev_set, SwP.ev_int, SwP.kMtV2, SwP.kMtV, SwP.mtAt_t, SwP.mtAt_f, SwP.kMtS_eq, SwP.ev_mt, SwP.ev_lc, SwP.ev_col, SwP.kCol, SwP.evs_nil, SwP.evs_cons, SwP.kEvs, SwP.kEvs2, SwP.evt_nil, SwP.evt_cons, SwP.kEvt, SwP.kEvt2, SwP.evo_nil, SwP.evo_c, SwP.evo_v, SwP.evo_op, SwP.evo_neg, SwP.evo_call, SwP.kBd, SwP.evi_range, SwP.evi_zip, SwP.evi_enum, SwP.evi_rev, SwP.evi_v, SwP.evi_c, SwP.evi_ix, SwP.evi_sl, SwP.evi_tup, SwP.evi_lst, SwP.evi_call, SwP.evi_op, SwP.evi_rv, SwP.evi_lc, SwP.evi_sorted, SwP.kSeqOf, SwP.kWalk, SwP.eva_nil, SwP.eva_v, SwP.eva_c, SwP.eva_op, SwP.eva_neg, SwP.eva_ix, SwP.eva_sl, SwP.eva_rv, SwP.eva_tup, SwP.eva_lst, SwP.eva_call, SwP.eva_bi, SwP.eva_lc, SwP.eva_col, SwP.eva_ite, SwP.eva_mt, SwP.kAg, SwP.kAg2, SwP.kAgD, SwP.kAgM, SwP.agM2_mu, SwP.agV_mu, SwP.agV_im, SwP.agV_fz, SwP.sx_skip, SwP.sx_seq, SwP.kSeq_nx, SwP.kSeq_rt, SwP.kSeq_bk, SwP.kSeq_ct, SwP.kPut, SwP.kGive, SwP.sx_asgN, SwP.sx_asgT, SwP.kSix, SwP.kSix2, SwP.sixAt_t, SwP.sx_six, SwP.kSwp, SwP.kSwp2, SwP.kSwp4, SwP.kSwp5, SwP.swpAt_t, SwP.sx_swp, SwP.augP_s, SwP.kAug2_int, SwP.kAug, SwP.sx_aug, SwP.kEx, SwP.sx_ex, SwP.kRet, SwP.sx_retv, SwP.sx_ite, SwP.kIte_t, SwP.kIte_f, SwP.sx_for, SwP.sx_wh, SwP.sx_brk, SwP.sx_cont, SwP.rt_c, SwP.rt_op, SwP.rt_cmp, SwP.rt_chain, SwP.rt_neg, SwP.rt_no, SwP.rt_an, SwP.rt_oo, SwP.rt_ite, SwP.rt_tup, SwP.rt_lst, SwP.rt_ix, SwP.rt_sl, SwP.rt_rv, SwP.rt_call, SwP.rt_bi, SwP.rt_mt, SwP.rt_lc, SwP.rt_col, SwP.fr_im, SwP.fr_un, SwP.fr_mu, SwP.canSet_zero, SwP.canSet_succ, SwP.put_eq, SwP.putIf_t, SwP.putF_s, SwP.setW_zero, SwP.setW_succ, SwP.ofT_im, SwP.ofT_nu, SwP.rdV_eq, SwP.rdW_im, SwP.rdW_fz, SwP.rdW_l, SwP.rdW_s, SwP.rdW_kf, SwP.rdW_kt, SwP.isMu_eq, SwP.isMuW_l, SwP.isMuW_pop, SwP.isMuW_ix, SwP.isMuW_lix, SwP.isMuW_add, SwP.isMuW_im, SwP.isMuW_fz, SwP.storeAt_im, SwP.storeW_0, SwP.storeW_1, SwP.aug_add, SwP.aug_sub, SwP.retV_m, SwP.retV_im, SwP.retV_mt, SwP.retV_fz, SwP.agsOk_nil, SwP.agsOk_n, SwP.agsOk_s, SwP.ws_nil, SwP.ws_cons, SwP.gb_nil, SwP.gb_n, SwP.gb_s, SwP.gbW_m, SwP.gbW_fT, SwP.gbW_fF, SwP.give_n, SwP.give_t, SwP.give_l, SwP.give_p, SwP.gives_nil, SwP.gives_cons, SwP.givesK_s, SwP.wipe_nil, SwP.wipe_cons, SwP.unw_nil, SwP.unw_cons, SwP.b_add, SwP.b_sub, SwP.b_mul, SwP.mulOk_l, SwP.mulOk_r, SwP.b_fdiv, SwP.b_mod, SwP.b_pow18, SwP.c_lt, SwP.c_le, SwP.c_gt, SwP.c_ge, SwP.c_eqI, SwP.c_neI, SwP.c_isN, SwP.c_isnN, SwP.t_bl, SwP.t_int, SwP.t_tup, SwP.t_lst, SwP.t_nu, SwP.t_non, SwP.d_im, SwP.d_nu, SwP.intOf_i, SwP.seq_t, SwP.seq_l, SwP.seq_n, SwP.ix_t, SwP.ix_l, SwP.ix_n, SwP.atIx_0, SwP.atIx_1, SwP.atIx_2, SwP.atIx_m1, SwP.sl_t, SwP.sl_l, SwP.sl_n, SwP.rv_t, SwP.rv_l, SwP.rv_n, SwP.int_b, SwP.int_i, SwP.len_t, SwP.len_l, SwP.len_n, SwP.tuple_t, SwP.tuple_l, SwP.tuple_n, SwP.list_t, SwP.list_l, SwP.list_n, SwP.max_i, SwP.min_i, SwP.isi_ii, SwP.isi_ib, SwP.isi_bb, SwP.isi_tt, SwP.w_range, SwP.w_zipT, SwP.w_zipL, SwP.w_enumT, SwP.w_enumL, SwP.w_revT, List.getElem?_cons_zero, List.getElem?_cons_succ, List.contains_nil, List.contains_cons, Bool.not_true, Bool.not_false, Bool.true_and, Bool.and_true, Bool.false_or, Bool.or_false, List.getD_cons_zero, List.getD_cons_succ, Option.map_some, Int.reduceNeg, Nat.reduceLT, Nat.reduceLeDiff, Int.reduceLT, Int.reduceLE, Int.reduceEq, Int.reduceAdd, Int.reduceSub, Int.reduceMul, Nat.reduceAdd, Nat.reduceBEq, Nat.reduceEqDiff, decide_true, decide_false, SwP.mkTup_eq, SwP.mkLst_eq, SwP.b_addT, SwP.b_addNN, SwP.b_addIN, SwP.b_addNI, SwP.mt_append, SwP.mt_popAt, SwP.mt_pop, SwP.col_t, SwP.col_l, List.length_cons, List.length_nil, SwP.nums_len, SwP.prs_len, SwP.upto_len, SL, SwP.range_1, SwP.sorted_prs, SwP.sorted_prsI, SwP.lcIf_nil, SwP.lcIf_no, SwP.lcIf_cmp, SwP.lcIf_chain, SwP.lcIf_an, SwP.lcIf_oo, SwP.lcIf_call, SwP.c_neNN, SwP.c_eqNN, SwP.cut_takeI, SwP.cut_dropI, SwP.cut_m1, Int.reduceToNat, eq_self, Int.neg_neg, Int.toNat_natCast, wys_rev, wr_ok]
    exact ⟨rfl, rfl⟩
  rw [e, h1, h2]
theorem rightB (n : Nat) {m : Nat} {A : List (List (Nat × Nat))} {U : List (List Nat)} (h : NS m A U) :
    callD prog (n + 3) 10 [.im (.tup [.int (m : Int), .tup (stg A)]), .im (.tup (wys U))] = some (some (.im (.bl true), [.im (.tup [.int (m : Int), .tup (stg A)]), .im (.tup (wys U))])) := by
  have hm := h.m32
  have hl := h.len
  have ul := h.ulen
  have nd : ∀ s ∈ A, (flatP s).Nodup := fun s q => (h.st s q).1.nodup
  have ok : NetOk m A := ⟨by omega, by omega, fun s hs => ⟨h.le s hs, fun p hp => by have := h.low s hs p hp; omega⟩⟩
  have okr : NetOk m A.reverse := ⟨by omega, by simp; omega, fun s hs => ok.2.2 s (List.mem_reverse.mp hs)⟩
  have oku : ∀ w ∈ U, w.length ≤ 1000 ∧ ∀ k ∈ w, k < 1000 := fun w hw => ⟨h.ule w hw, fun k hk => by have := h.fit.2 w hw k hk; omega⟩
  have okv : ∀ w ∈ U.reverse, w.length ≤ 1000 ∧ ∀ k ∈ w, k < 1000 := fun w hw => oku w (List.mem_reverse.mp hw)
  obtain ⟨t, ws, e, h1, h2⟩ : Calls (callD prog (n + 3)) 10 [.im (.tup [.int (m : Int), .tup (stg A)]), .im (.tup (wys U))] fun t ws => t = .im (.bl true) ∧ ws = [.im (.tup [.int (m : Int), .tup (stg A)]), .im (.tup (wys U))] := by
    refine calls_of (fn := f_l_right) rfl rfl ?_
    show WR (sx _ f_l_right.body [.im (.tup [.int (m : Int), .tup (stg A)]), .im (.tup (wys U)), .un, .un, .un, .un]) _
    unfold f_l_right
    have e1 := aboutB (n + 1) (m := m) (A := A)
    have e2 := aboutS (n + 1) (U := U)
    have e3 := aboutB (n + 1) (m := m) (A := A.reverse)
    have e4 := aboutS (n + 1) (U := U.reverse)
    rw [List.reverse_reverse] at e3 e4
    have r1 := repr_net okr
    have r2 := ne_reprNet okr
    have r3 := repr_net ok
    have r4 := eq_reprNet ok
    have u1 : bifn .repr [.im (.tup (wys U.reverse))] = some (.im (.str (D.repr (.tup (wys U.reverse))))) := repr_of (rp_wys okv) (by simp; omega) fine_wys (by omega)
    have u2 := ne_repr (rp_wys okv)
    have u3 : bifn .repr [.im (.tup (wys U))] = some (.im (.str (D.repr (.tup (wys U))))) := repr_of (rp_wys oku) (by omega) fine_wys (by omega)
    have u4 := eq_repr (rp_wys oku)
    have b1 : A.length ≤ 16777216 := by omega
    have b2 : U.length ≤ 16777216 := by omega
    have g1 : m < 1000000 := by omega
    have c1 : colT .tuple (stg A.reverse) = some (.im (.tup (stg A.reverse))) := col_t (by rw [stg_len, List.length_reverse]; omega)
    have c2 : colT .tuple (wys U.reverse) = some (.im (.tup (wys U.reverse))) := col_t (by rw [wys_len, List.length_reverse]; omega)
    simp -implicitDefEqProofs only [SwP.bnd_ok, SwP.bnd_bad, SwP.rof_some, SwP.ev_c, SwP.ev_v, SwP.kOp2, SwP.kOp, SwP.ev_op, SwP.kCmp2, SwP.kCmp, SwP.ev_cmp, SwP.cmpR_eq, SwP.mapB, SwP.mapD, SwP.mapO, SwP.kChain, SwP.kChain2, SwP.kChain3, SwP.kChain4, SwP.ev_chain, SwP.kNeg, SwP.ev_neg, SwP.tst_eq, SwP.kTru, SwP.kNo, SwP.ev_no, SwP.kAn, SwP.kAn2, SwP.ev_an, SwP.kOo, SwP.kOo2, SwP.ev_oo, SwP.kIfE, SwP.ev_ite, SwP.ev_tup, SwP.ev_lst, SwP.kIx, SwP.kIx2, SwP.ev_ix, SwP.kSl, SwP.kSl2, SwP.kSl3, SwP.ev_sl, SwP.kRv, SwP.ev_rv, SwP.kCall_eq, SwP.dcIf_t, SwP.dcAt_eq, SwP.dcBack_eq, SwP.ev_call, SwP.kBi, SwP.ev_len, SwP.ev_tuple, SwP.ev_list, SwP.ev_sorted, SwP.ev_sum, SwP.ev_repr, SwP.ev_isinst, SwP.ev_max, SwP.ev_min, SwP.ev_set, SwP.ev_int, SwP.kMtV2, SwP.kMtV, SwP.mtAt_t, SwP.mtAt_f, SwP.kMtS_eq, SwP.ev_mt, SwP.ev_lc, SwP.ev_col, SwP.kCol, SwP.evs_nil, SwP.evs_cons, SwP.kEvs, SwP.kEvs2, SwP.evt_nil, SwP.evt_cons, SwP.kEvt, SwP.kEvt2, SwP.evo_nil, SwP.evo_c, SwP.evo_v, SwP.evo_op, SwP.evo_neg, SwP.evo_call, SwP.kBd, SwP.evi_range, SwP.evi_zip, SwP.evi_enum, SwP.evi_rev, SwP.evi_v, SwP.evi_c, SwP.evi_ix, SwP.evi_sl, SwP.evi_tup, SwP.evi_lst, SwP.evi_call, SwP.evi_op, SwP.evi_rv, SwP.evi_lc, SwP.evi_sorted, SwP.kSeqOf, SwP.kWalk, SwP.eva_nil, SwP.eva_v, SwP.eva_c, SwP.eva_op, SwP.eva_neg, SwP.eva_ix, SwP.eva_sl, SwP.eva_rv, SwP.eva_tup, SwP.eva_lst, SwP.eva_call, SwP.eva_bi, SwP.eva_lc, SwP.eva_col, SwP.eva_ite, SwP.eva_mt, SwP.kAg, SwP.kAg2, SwP.kAgD, SwP.kAgM, SwP.agM2_mu, SwP.agV_mu, SwP.agV_im, SwP.agV_fz, SwP.sx_skip, SwP.sx_seq, SwP.kSeq_nx, SwP.kSeq_rt, SwP.kSeq_bk, SwP.kSeq_ct, SwP.kPut, SwP.kGive, SwP.sx_asgN, SwP.sx_asgT, SwP.kSix, SwP.kSix2, SwP.sixAt_t, SwP.sx_six, SwP.kSwp, SwP.kSwp2, SwP.kSwp4, SwP.kSwp5, SwP.swpAt_t, SwP.sx_swp, SwP.augP_s, SwP.kAug2_int, SwP.kAug, SwP.sx_aug, SwP.kEx, SwP.sx_ex, SwP.kRet, SwP.sx_retv, SwP.sx_ite, SwP.kIte_t, SwP.kIte_f, SwP.sx_for, SwP.sx_wh, SwP.sx_brk, SwP.sx_cont, SwP.rt_c, SwP.rt_op, SwP.rt_cmp, SwP.rt_chain, SwP.rt_neg, SwP.rt_no, SwP.rt_an, SwP.rt_oo, SwP.rt_ite, SwP.rt_tup, SwP.rt_lst, SwP.rt_ix, SwP.rt_sl, SwP.rt_rv, SwP.rt_call, SwP.rt_bi, SwP.rt_mt, SwP.rt_lc, SwP.rt_col, SwP.fr_im, SwP.fr_un, SwP.fr_mu, SwP.canSet_zero, SwP.canSet_succ, SwP.put_eq, SwP.putIf_t, SwP.putF_s, SwP.setW_zero, SwP.setW_succ, SwP.ofT_im, SwP.ofT_nu, SwP.rdV_eq, SwP.rdW_im, SwP.rdW_fz, SwP.rdW_l, SwP.rdW_s, SwP.rdW_kf, SwP.rdW_kt, SwP.isMu_eq, SwP.isMuW_l, SwP.isMuW_pop, SwP.isMuW_ix, SwP.isMuW_lix, SwP.isMuW_add, SwP.isMuW_im, SwP.isMuW_fz, SwP.storeAt_im, SwP.storeW_0, SwP.storeW_1, SwP.aug_add, SwP.aug_sub, SwP.retV_m, SwP.retV_im, SwP.retV_mt, SwP.retV_fz, SwP.agsOk_nil, SwP.agsOk_n, SwP.agsOk_s, SwP.ws_nil, SwP.ws_cons, SwP.gb_nil, SwP.gb_n, SwP.gb_s, SwP.gbW_m, SwP.gbW_fT, SwP.gbW_fF, SwP.give_n, SwP.give_t, SwP.give_l, SwP.give_p, SwP.gives_nil, SwP.gives_cons, SwP.givesK_s, SwP.wipe_nil, SwP.wipe_cons, SwP.unw_nil, SwP.unw_cons, SwP.b_add, SwP.b_sub, SwP.b_mul, SwP.mulOk_l, SwP.mulOk_r, SwP.b_fdiv, SwP.b_mod, SwP.b_pow18, SwP.c_lt, SwP.c_le, SwP.c_gt, SwP.c_ge, SwP.c_eqI, SwP.c_neI, SwP.c_isN, SwP.c_isnN, SwP.t_bl, SwP.t_int, SwP.t_tup, SwP.t_lst, SwP.t_nu, SwP.t_non, SwP.d_im, SwP.d_nu, SwP.intOf_i, SwP.seq_t, SwP.seq_l, SwP.seq_n, SwP.ix_t, SwP.ix_l, SwP.ix_n, SwP.atIx_0, SwP.atIx_1, SwP.atIx_2, SwP.atIx_m1, SwP.sl_t, SwP.sl_l, SwP.sl_n, SwP.rv_t, SwP.rv_l, SwP.rv_n, SwP.int_b, SwP.int_i, SwP.len_t, SwP.len_l, SwP.len_n, SwP.tuple_t, SwP.tuple_l, SwP.tuple_n, SwP.list_t, SwP.list_l, SwP.list_n, SwP.max_i, SwP.min_i, SwP.isi_ii, SwP.isi_ib, SwP.isi_bb, SwP.isi_tt, SwP.w_range, SwP.w_zipT, SwP.w_zipL, SwP.w_enumT, SwP.w_enumL, SwP.w_revT, List.getElem?_cons_zero, List.getElem?_cons_succ, List.contains_nil, List.contains_cons, Bool.not_true, Bool.not_false, Bool.true_and, Bool.and_true, Bool.false_or, Bool.or_false, List.getD_cons_zero, List.getD_cons_succ, Option.map_some, Int.reduceNeg, Nat.reduceLT, Nat.reduceLeDiff, Int.reduceLT, Int.reduceLE, Int.reduceEq, Int.reduceAdd, Int.reduceSub, Int.reduceMul, Nat.reduceAdd, Nat.reduceBEq, Nat.reduceEqDiff, decide_true, decide_false, SwP.mkTup_eq, SwP.mkLst_eq, SwP.b_addT, SwP.b_addNN, SwP.b_addIN, SwP.b_addNI, SwP.mt_append, SwP.mt_popAt, SwP.mt_pop, SwP.col_t, SwP.col_l, List.length_cons, List.length_nil, SwP.nums_len, SwP.prs_len, SwP.upto_len, SL, SwP.range_1, SwP.sorted_prs, SwP.sorted_prsI, SwP.lcIf_nil, SwP.lcIf_no, SwP.lcIf_cmp, SwP.lcIf_chain, SwP.lcIf_an, SwP.lcIf_oo, SwP.lcIf_call, SwP.c_neNN, SwP.c_eqNN, SwP.cut_takeI, SwP.cut_dropI, SwP.cut_m1, Int.reduceToNat, eq_self, Int.neg_neg, Int.toNat_natCast, e1, e2, stg_rev, wys_rev, c1, c2, r1, r2, u1, u2, g1]
    simp only [wr_bnd]
    refine wr_for (I := fun i env => ∃ w4 w5, env = [.im (.tup [.int (m : Int), .tup (stg A)]), .im (.tup (wys U)), .im (.tup [.int (m : Int), .tup (stg A.reverse)]), .im (.tup (wys U.reverse)), w4, w5] ∧ fr w4 = true ∧ fr w5 = true) ⟨_, _, rfl, rfl, rfl⟩ ?_ ?_
    · rintro i hi env ⟨w4, w5, rfl, f4, f5⟩
      refine ⟨_, by simp -implicitDefEqProofs only [SwP.bnd_ok, SwP.bnd_bad, SwP.rof_some, SwP.ev_c, SwP.ev_v, SwP.kOp2, SwP.kOp, SwP.ev_op, SwP.kCmp2, SwP.kCmp, SwP.ev_cmp, SwP.cmpR_eq, SwP.mapB, SwP.mapD, SwP.mapO, SwP.kChain, SwP.kChain2, SwP.kChain3, SwP.kChain4, SwP.ev_chain, SwP.kNeg, SwP.ev_neg, SwP.tst_eq, SwP.kTru, SwP.kNo, SwP.ev_no, SwP.kAn, SwP.kAn2, SwP.ev_an, SwP.kOo, SwP.kOo2, SwP.ev_oo, SwP.kIfE, SwP.ev_ite, SwP.ev_tup, SwP.ev_lst, SwP.kIx, SwP.kIx2, SwP.ev_ix, SwP.kSl, SwP.kSl2, SwP.kSl3, SwP.ev_sl, SwP.kRv, SwP.ev_rv, SwP.kCall_eq, SwP.dcIf_t, SwP.dcAt_eq, SwP.dcBack_eq, SwP.ev_call, SwP.kBi, SwP.ev_len, SwP.ev_tuple, SwP.ev_list, SwP.ev_sorted, SwP.ev_sum, SwP.ev_repr, SwP.ev_isinst, SwP.ev_max, SwP.ev_min, SwP.ev_set, SwP.ev_int, SwP.kMtV2, SwP.kMtV, SwP.mtAt_t, SwP.mtAt_f, SwP.kMtS_eq, SwP.ev_mt, SwP.ev_lc, SwP.ev_col, SwP.kCol, SwP.evs_nil, SwP.evs_cons, SwP.kEvs, SwP.kEvs2, SwP.evt_nil, SwP.evt_cons, SwP.kEvt, SwP.kEvt2, SwP.evo_nil, SwP.evo_c, SwP.evo_v, SwP.evo_op, SwP.evo_neg, SwP.evo_call, SwP.kBd, SwP.evi_range, SwP.evi_zip, SwP.evi_enum, SwP.evi_rev, SwP.evi_v, SwP.evi_c, SwP.evi_ix, SwP.evi_sl, SwP.evi_tup, SwP.evi_lst, SwP.evi_call, SwP.evi_op, SwP.evi_rv, SwP.evi_lc, SwP.evi_sorted, SwP.kSeqOf, SwP.kWalk, SwP.eva_nil, SwP.eva_v, SwP.eva_c, SwP.eva_op, SwP.eva_neg, SwP.eva_ix, SwP.eva_sl, SwP.eva_rv, SwP.eva_tup, SwP.eva_lst, SwP.eva_call, SwP.eva_bi, SwP.eva_lc, SwP.eva_col, SwP.eva_ite, SwP.eva_mt, SwP.kAg, SwP.kAg2, SwP.kAgD, SwP.kAgM, SwP.agM2_mu, SwP.agV_mu, SwP.agV_im, SwP.agV_fz, SwP.sx_skip, SwP.sx_seq, SwP.kSeq_nx, SwP.kSeq_rt, SwP.kSeq_bk, SwP.kSeq_ct, SwP.kPut, SwP.kGive, SwP.sx_asgN, SwP.sx_asgT, SwP.kSix, SwP.kSix2, SwP.sixAt_t, SwP.sx_six, SwP.kSwp, SwP.kSwp2, SwP.kSwp4, SwP.kSwp5, SwP.swpAt_t, SwP.sx_swp, SwP.augP_s, SwP.kAug2_int, SwP.kAug, SwP.sx_aug, SwP.kEx, SwP.sx_ex, SwP.kRet, SwP.sx_retv, SwP.sx_ite, SwP.kIte_t, SwP.kIte_f, SwP.sx_for, SwP.sx_wh, SwP.sx_brk, SwP.sx_cont, SwP.rt_c, SwP.rt_op, SwP.rt_cmp, SwP.rt_chain, SwP.rt_neg, SwP.rt_no, SwP.rt_an, SwP.rt_oo, SwP.rt_ite, SwP.rt_tup, SwP.rt_lst, SwP.rt_ix, SwP.rt_sl, SwP.rt_rv, SwP.rt_call, SwP.rt_bi, SwP.rt_mt, SwP.rt_lc, SwP.rt_col, SwP.fr_im, SwP.fr_un, SwP.fr_mu, SwP.canSet_zero, SwP.canSet_succ, SwP.put_eq, SwP.putIf_t, SwP.putF_s, SwP.setW_zero, SwP.setW_succ, SwP.ofT_im, SwP.ofT_nu, SwP.rdV_eq, SwP.rdW_im, SwP.rdW_fz, SwP.rdW_l, SwP.rdW_s, SwP.rdW_kf, SwP.rdW_kt, SwP.isMu_eq, SwP.isMuW_l, SwP.isMuW_pop, SwP.isMuW_ix, SwP.isMuW_lix, SwP.isMuW_add, SwP.isMuW_im, SwP.isMuW_fz, SwP.storeAt_im, SwP.storeW_0, SwP.storeW_1, SwP.aug_add, SwP.aug_sub, SwP.retV_m, SwP.retV_im, SwP.retV_mt, SwP.retV_fz, SwP.agsOk_nil, SwP.agsOk_n, SwP.agsOk_s, SwP.ws_nil, SwP.ws_cons, SwP.gb_nil, SwP.gb_n, SwP.gb_s, SwP.gbW_m, SwP.gbW_fT, SwP.gbW_fF, SwP.give_n, SwP.give_t, SwP.give_l, SwP.give_p, SwP.gives_nil, SwP.gives_cons, SwP.givesK_s, SwP.wipe_nil, SwP.wipe_cons, SwP.unw_nil, SwP.unw_cons, SwP.b_add, SwP.b_sub, SwP.b_mul, SwP.mulOk_l, SwP.mulOk_r, SwP.b_fdiv, SwP.b_mod, SwP.b_pow18, SwP.c_lt, SwP.c_le, SwP.c_gt, SwP.c_ge, SwP.c_eqI, SwP.c_neI, SwP.c_isN, SwP.c_isnN, SwP.t_bl, SwP.t_int, SwP.t_tup, SwP.t_lst, SwP.t_nu, SwP.t_non, SwP.d_im, SwP.d_nu, SwP.intOf_i, SwP.seq_t, SwP.seq_l, SwP.seq_n, SwP.ix_t, SwP.ix_l, SwP.ix_n, SwP.atIx_0, SwP.atIx_1, SwP.atIx_2, SwP.atIx_m1, SwP.sl_t, SwP.sl_l, SwP.sl_n, SwP.rv_t, SwP.rv_l, SwP.rv_n, SwP.int_b, SwP.int_i, SwP.len_t, SwP.len_l, SwP.len_n, SwP.tuple_t, SwP.tuple_l, SwP.tuple_n, SwP.list_t, SwP.list_l, SwP.list_n, SwP.max_i, SwP.min_i, SwP.isi_ii, SwP.isi_ib, SwP.isi_bb, SwP.isi_tt, SwP.w_range, SwP.w_zipT, SwP.w_zipL, SwP.w_enumT, SwP.w_enumL, SwP.w_revT, List.getElem?_cons_zero, List.getElem?_cons_succ, List.contains_nil, List.contains_cons, Bool.not_true, Bool.not_false, Bool.true_and, Bool.and_true, Bool.false_or, Bool.or_false, List.getD_cons_zero, List.getD_cons_succ, Option.map_some, Int.reduceNeg, Nat.reduceLT, Nat.reduceLeDiff, Int.reduceLT, Int.reduceLE, Int.reduceEq, Int.reduceAdd, Int.reduceSub, Int.reduceMul, Nat.reduceAdd, Nat.reduceBEq, Nat.reduceEqDiff, decide_true, decide_false, SwP.mkTup_eq, SwP.mkLst_eq, SwP.b_addT, SwP.b_addNN, SwP.b_addIN, SwP.b_addNI, SwP.mt_append, SwP.mt_popAt, SwP.mt_pop, SwP.col_t, SwP.col_l, List.length_cons, List.length_nil, SwP.nums_len, SwP.prs_len, SwP.upto_len, SL, SwP.range_1, SwP.sorted_prs, SwP.sorted_prsI, SwP.lcIf_nil, SwP.lcIf_no, SwP.lcIf_cmp, SwP.lcIf_chain, SwP.lcIf_an, SwP.lcIf_oo, SwP.lcIf_call, SwP.c_neNN, SwP.c_eqNN, SwP.cut_takeI, SwP.cut_dropI, SwP.cut_m1, Int.reduceToNat, eq_self, Int.neg_neg, Int.toNat_natCast, f4, upto_get]; rfl, ?_⟩
      have q1 := wayB n (y := .int (m : Int)) (sts := A) (us := U) (x := i) ul (by omega)
      have q2 := wayB n (y := .int (m : Int)) (sts := A.reverse) (us := U.reverse) (x := wend A U i) (by simp [ul]) (by simp; omega)
      rw [way_back nd ul] at q2
      have q3 := way_m1 (sts := A) (us := U) (x := i)
      simp -implicitDefEqProofs only [SwP.bnd_ok, SwP.bnd_bad, SwP.rof_some, SwP.ev_c, SwP.ev_v, SwP.kOp2, SwP.kOp, SwP.ev_op, SwP.kCmp2, SwP.kCmp, SwP.ev_cmp, SwP.cmpR_eq, SwP.mapB, SwP.mapD, SwP.mapO, SwP.kChain, SwP.kChain2, SwP.kChain3, SwP.kChain4, SwP.ev_chain, SwP.kNeg, SwP.ev_neg, SwP.tst_eq, SwP.kTru, SwP.kNo, SwP.ev_no, SwP.kAn, SwP.kAn2, SwP.ev_an, SwP.kOo, SwP.kOo2, SwP.ev_oo, SwP.kIfE, SwP.ev_ite, SwP.ev_tup, SwP.ev_lst, SwP.kIx, SwP.kIx2, SwP.ev_ix, SwP.kSl, SwP.kSl2, SwP.kSl3, SwP.ev_sl, SwP.kRv, SwP.ev_rv, SwP.kCall_eq, SwP.dcIf_t, SwP.dcAt_eq, SwP.dcBack_eq, SwP.ev_call, SwP.kBi, SwP.ev_len, SwP.ev_tuple, SwP.ev_list, SwP.ev_sorted, SwP.ev_sum, SwP.ev_repr, SwP.ev_isinst, SwP.ev_max, SwP.ev_min, SwP.ev_set, SwP.ev_int, SwP.kMtV2, SwP.kMtV, SwP.mtAt_t, SwP.mtAt_f, SwP.kMtS_eq, SwP.ev_mt, SwP.ev_lc, SwP.ev_col, SwP.kCol, SwP.evs_nil, SwP.evs_cons, SwP.kEvs, SwP.kEvs2, SwP.evt_nil, SwP.evt_cons, SwP.kEvt, SwP.kEvt2, SwP.evo_nil, SwP.evo_c, SwP.evo_v, SwP.evo_op, SwP.evo_neg, SwP.evo_call, SwP.kBd, SwP.evi_range, SwP.evi_zip, SwP.evi_enum, SwP.evi_rev, SwP.evi_v, SwP.evi_c, SwP.evi_ix, SwP.evi_sl, SwP.evi_tup, SwP.evi_lst, SwP.evi_call, SwP.evi_op, SwP.evi_rv, SwP.evi_lc, SwP.evi_sorted, SwP.kSeqOf, SwP.kWalk, SwP.eva_nil, SwP.eva_v, SwP.eva_c, SwP.eva_op, SwP.eva_neg, SwP.eva_ix, SwP.eva_sl, SwP.eva_rv, SwP.eva_tup, SwP.eva_lst, SwP.eva_call, SwP.eva_bi, SwP.eva_lc, SwP.eva_col, SwP.eva_ite, SwP.eva_mt, SwP.kAg, SwP.kAg2, SwP.kAgD, SwP.kAgM, SwP.agM2_mu, SwP.agV_mu, SwP.agV_im, SwP.agV_fz, SwP.sx_skip, SwP.sx_seq, SwP.kSeq_nx, SwP.kSeq_rt, SwP.kSeq_bk, SwP.kSeq_ct, SwP.kPut, SwP.kGive, SwP.sx_asgN, SwP.sx_asgT, SwP.kSix, SwP.kSix2, SwP.sixAt_t, SwP.sx_six, SwP.kSwp, SwP.kSwp2, SwP.kSwp4, SwP.kSwp5, SwP.swpAt_t, SwP.sx_swp, SwP.augP_s, SwP.kAug2_int, SwP.kAug, SwP.sx_aug, SwP.kEx, SwP.sx_ex, SwP.kRet, SwP.sx_retv, SwP.sx_ite, SwP.kIte_t, SwP.kIte_f, SwP.sx_for, SwP.sx_wh, SwP.sx_brk, SwP.sx_cont, SwP.rt_c, SwP.rt_op, SwP.rt_cmp, SwP.rt_chain, SwP.rt_neg, SwP.rt_no, SwP.rt_an, SwP.rt_oo, SwP.rt_ite, SwP.rt_tup, SwP.rt_lst, SwP.rt_ix, SwP.rt_sl, SwP.rt_rv, SwP.rt_call, SwP.rt_bi, SwP.rt_mt, SwP.rt_lc, SwP.rt_col, SwP.fr_im, SwP.fr_un, SwP.fr_mu, SwP.canSet_zero, SwP.canSet_succ, SwP.put_eq, SwP.putIf_t, SwP.putF_s, SwP.setW_zero, SwP.setW_succ, SwP.ofT_im, SwP.ofT_nu, SwP.rdV_eq, SwP.rdW_im, SwP.rdW_fz, SwP.rdW_l, SwP.rdW_s, SwP.rdW_kf, SwP.rdW_kt, SwP.isMu_eq, SwP.isMuW_l, SwP.isMuW_pop, SwP.isMuW_ix, SwP.isMuW_lix, SwP.isMuW_add, SwP.isMuW_im, SwP.isMuW_fz, SwP.storeAt_im, SwP.storeW_0, SwP.storeW_1, SwP.aug_add, SwP.aug_sub, SwP.retV_m, SwP.retV_im, SwP.retV_mt, SwP.retV_fz, SwP.agsOk_nil, SwP.agsOk_n, SwP.agsOk_s, SwP.ws_nil, SwP.ws_cons, SwP.gb_nil, SwP.gb_n, SwP.gb_s, SwP.gbW_m, SwP.gbW_fT, SwP.gbW_fF, SwP.give_n, SwP.give_t, SwP.give_l, SwP.give_p, SwP.gives_nil, SwP.gives_cons, SwP.givesK_s, SwP.wipe_nil, SwP.wipe_cons, SwP.unw_nil, SwP.unw_cons, SwP.b_add, SwP.b_sub, SwP.b_mul, SwP.mulOk_l, SwP.mulOk_r, SwP.b_fdiv, SwP.b_mod, SwP.b_pow18, SwP.c_lt, SwP.c_le, SwP.c_gt, SwP.c_ge, SwP.c_eqI, SwP.c_neI, SwP.c_isN, SwP.c_isnN, SwP.t_bl, SwP.t_int, SwP.t_tup, SwP.t_lst, SwP.t_nu, SwP.t_non, SwP.d_im, SwP.d_nu, SwP.intOf_i, SwP.seq_t, SwP.seq_l, SwP.seq_n, SwP.ix_t, SwP.ix_l, SwP.ix_n, SwP.atIx_0, SwP.atIx_1, SwP.atIx_2, SwP.atIx_m1, SwP.sl_t, SwP.sl_l, SwP.sl_n, SwP.rv_t, SwP.rv_l, SwP.rv_n, SwP.int_b, SwP.int_i, SwP.len_t, SwP.len_l, SwP.len_n, SwP.tuple_t, SwP.tuple_l, SwP.tuple_n, SwP.list_t, SwP.list_l, SwP.list_n, SwP.max_i, SwP.min_i, SwP.isi_ii, SwP.isi_ib, SwP.isi_bb, SwP.isi_tt, SwP.w_range, SwP.w_zipT, SwP.w_zipL, SwP.w_enumT, SwP.w_enumL, SwP.w_revT, List.getElem?_cons_zero, List.getElem?_cons_succ, List.contains_nil, List.contains_cons, Bool.not_true, Bool.not_false, Bool.true_and, Bool.and_true, Bool.false_or, Bool.or_false, List.getD_cons_zero, List.getD_cons_succ, Option.map_some, Int.reduceNeg, Nat.reduceLT, Nat.reduceLeDiff, Int.reduceLT, Int.reduceLE, Int.reduceEq, Int.reduceAdd, Int.reduceSub, Int.reduceMul, Nat.reduceAdd, Nat.reduceBEq, Nat.reduceEqDiff, decide_true, decide_false, SwP.mkTup_eq, SwP.mkLst_eq, SwP.b_addT, SwP.b_addNN, SwP.b_addIN, SwP.b_addNI, SwP.mt_append, SwP.mt_popAt, SwP.mt_pop, SwP.col_t, SwP.col_l, List.length_cons, List.length_nil, SwP.nums_len, SwP.prs_len, SwP.upto_len, SL, SwP.range_1, SwP.sorted_prs, SwP.sorted_prsI, SwP.lcIf_nil, SwP.lcIf_no, SwP.lcIf_cmp, SwP.lcIf_chain, SwP.lcIf_an, SwP.lcIf_oo, SwP.lcIf_call, SwP.c_neNN, SwP.c_eqNN, SwP.cut_takeI, SwP.cut_dropI, SwP.cut_m1, Int.reduceToNat, eq_self, Int.neg_neg, Int.toNat_natCast, q1, f5, q3, q2, nums_rev, ne_numsT, wr_ok]
      exact ⟨_, _, rfl, rfl, rfl⟩
    · rintro env ⟨w4, w5, rfl, f4, f5⟩
      simp -implicitDefEqProofs only [SwP.bnd_ok, SwP.bnd_bad, SwP.rof_some, SwP.ev_c, SwP.ev_v, SwP.kOp2, SwP.kOp, SwP.ev_op, SwP.kCmp2, SwP.kCmp, SwP.ev_cmp, SwP.cmpR_eq, SwP.mapB, SwP.mapD, SwP.mapO, SwP.kChain, SwP.kChain2, SwP.kChain3, SwP.kChain4, SwP.ev_chain, SwP.kNeg, SwP.ev_neg, SwP.tst_eq, SwP.kTru, SwP.kNo, SwP.ev_no, SwP.kAn, SwP.kAn2, SwP.ev_an, SwP.kOo, SwP.kOo2, SwP.ev_oo, SwP.kIfE, SwP.ev_ite, SwP.ev_tup, SwP.ev_lst, SwP.kIx, SwP.kIx2, SwP.ev_ix, SwP.kSl, SwP.kSl2, SwP.kSl3, SwP.ev_sl, SwP.kRv, SwP.ev_rv, SwP.kCall_eq, SwP.dcIf_t, SwP.dcAt_eq, SwP.dcBack_eq, SwP.ev_call, SwP.kBi, SwP.ev_len, SwP.ev_tuple, SwP.ev_list, SwP.ev_sorted, SwP.ev_sum, SwP.ev_repr, SwP.ev_isinst, SwP.ev_max, SwP.ev_min, SwP.ev_set, SwP.ev_int, SwP.kMtV2, SwP.kMtV, SwP.mtAt_t, SwP.mtAt_f, SwP.kMtS_eq, SwP.ev_mt, SwP.ev_lc, SwP.ev_col, SwP.kCol, SwP.evs_nil, SwP.evs_cons, SwP.kEvs, SwP.kEvs2, SwP.evt_nil, SwP.evt_cons, SwP.kEvt, SwP.kEvt2, SwP.evo_nil, SwP.evo_c, SwP.evo_v, SwP.evo_op, SwP.evo_neg, SwP.evo_call, SwP.kBd, SwP.evi_range, SwP.evi_zip, SwP.evi_enum, SwP.evi_rev, SwP.evi_v, SwP.evi_c, SwP.evi_ix, SwP.evi_sl, SwP.evi_tup, SwP.evi_lst, SwP.evi_call, SwP.evi_op, SwP.evi_rv, SwP.evi_lc, SwP.evi_sorted, SwP.kSeqOf, SwP.kWalk, SwP.eva_nil, SwP.eva_v, SwP.eva_c, SwP.eva_op, SwP.eva_neg, SwP.eva_ix, SwP.eva_sl, SwP.eva_rv, SwP.eva_tup, SwP.eva_lst, SwP.eva_call, SwP.eva_bi, SwP.eva_lc, SwP.eva_col, SwP.eva_ite, SwP.eva_mt, SwP.kAg, SwP.kAg2, SwP.kAgD, SwP.kAgM, SwP.agM2_mu, SwP.agV_mu, SwP.agV_im, SwP.agV_fz, SwP.sx_skip, SwP.sx_seq, SwP.kSeq_nx, SwP.kSeq_rt, SwP.kSeq_bk, SwP.kSeq_ct, SwP.kPut, SwP.kGive, SwP.sx_asgN, SwP.sx_asgT, SwP.kSix, SwP.kSix2, SwP.sixAt_t, SwP.sx_six, SwP.kSwp, SwP.kSwp2, SwP.kSwp4, SwP.kSwp5, SwP.swpAt_t, SwP.sx_swp, SwP.augP_s, SwP.kAug2_int, SwP.kAug, SwP.sx_aug, SwP.kEx, SwP.sx_ex, SwP.kRet, SwP.sx_retv, SwP.sx_ite, SwP.kIte_t, SwP.kIte_f, SwP.sx_for, SwP.sx_wh, SwP.sx_brk, SwP.sx_cont, SwP.rt_c, SwP.rt_op, SwP.rt_cmp, SwP.rt_chain, SwP.rt_neg, SwP.rt_no, SwP.rt_an, SwP.rt_oo, SwP.rt_ite, SwP.rt_tup, SwP.rt_lst, SwP.rt_ix, SwP.rt_sl, SwP.rt_rv, SwP.rt_call, SwP.rt_bi, SwP.rt_mt, SwP.rt_lc, SwP.rt_col, SwP.fr_im, SwP.fr_un, SwP.fr_mu, SwP.canSet_zero, SwP.canSet_succ, SwP.put_eq, SwP.putIf_t, SwP.putF_s, SwP.setW_zero, SwP.setW_succ, SwP.ofT_im, SwP.ofT_nu, SwP.rdV_eq, SwP.rdW_im, SwP.rdW_fz, SwP.rdW_l, SwP.rdW_s, SwP.rdW_kf, SwP.rdW_kt, SwP.isMu_eq, SwP.isMuW_l, SwP.isMuW_pop, SwP.isMuW_ix, SwP.isMuW_lix, SwP.isMuW_add, SwP.isMuW_im, SwP.isMuW_fz, SwP.storeAt_im, SwP.storeW_0, SwP.storeW_1, SwP.aug_add, SwP.aug_sub, SwP.retV_m, SwP.retV_im, SwP.retV_mt, SwP.retV_fz, SwP.agsOk_nil, SwP.agsOk_n, SwP.agsOk_s, SwP.ws_nil, SwP.ws_cons, SwP.gb_nil, SwP.gb_n, SwP.gb_s, SwP.gbW_m, SwP.gbW_fT, SwP.gbW_fF, SwP.give_n, SwP.give_t, SwP.give_l, SwP.give_p, SwP.gives_nil, SwP.gives_cons, SwP.givesK_s, SwP.wipe_nil, SwP.wipe_cons, SwP.unw_nil, SwP.unw_cons, SwP.b_add, SwP.b_sub, SwP.b_mul, SwP.mulOk_l, SwP.mulOk_r, SwP.b_fdiv, SwP.b_mod, SwP.b_pow18, SwP.c_lt, SwP.c_le, SwP.c_gt, SwP.c_ge, SwP.c_eqI, SwP.c_neI, SwP.c_isN, SwP.c_isnN, SwP.t_bl, SwP.t_int, SwP.t_tup, SwP.t_lst, SwP.t_nu, SwP.t_non, SwP.d_im, SwP.d_nu, SwP.intOf_i, SwP.seq_t, SwP.seq_l, SwP.seq_n, SwP.ix_t, SwP.ix_l, SwP.ix_n, SwP.atIx_0, SwP.atIx_1, SwP.atIx_2, SwP.atIx_m1, SwP.sl_t, SwP.sl_l, SwP.sl_n, SwP.rv_t, SwP.rv_l, SwP.rv_n, SwP.int_b, SwP.int_i, SwP.len_t, SwP.len_l, SwP.len_n, SwP.tuple_t, SwP.tuple_l, SwP.tuple_n, SwP.list_t, SwP.list_l, SwP.list_n, SwP.max_i, SwP.min_i, SwP.isi_ii, SwP.isi_ib, SwP.isi_bb, SwP.isi_tt, SwP.w_range, SwP.w_zipT, SwP.w_zipL, SwP.w_enumT, SwP.w_enumL, SwP.w_revT, List.getElem?_cons_zero, List.getElem?_cons_succ, List.contains_nil, List.contains_cons, Bool.not_true, Bool.not_false, Bool.true_and, Bool.and_true, Bool.false_or, Bool.or_false, List.getD_cons_zero, List.getD_cons_succ, Option.map_some, Int.reduceNeg, Nat.reduceLT, Nat.reduceLeDiff, Int.reduceLT, Int.reduceLE, Int.reduceEq, Int.reduceAdd, Int.reduceSub, Int.reduceMul, Nat.reduceAdd, Nat.reduceBEq, Nat.reduceEqDiff, decide_true, decide_false, SwP.mkTup_eq, SwP.mkLst_eq, SwP.b_addT, SwP.b_addNN, SwP.b_addIN, SwP.b_addNI, SwP.mt_append, SwP.mt_popAt, SwP.mt_pop, SwP.col_t, SwP.col_l, List.length_cons, List.length_nil, SwP.nums_len, SwP.prs_len, SwP.upto_len, SL, SwP.range_1, SwP.sorted_prs, SwP.sorted_prsI, SwP.lcIf_nil, SwP.lcIf_no, SwP.lcIf_cmp, SwP.lcIf_chain, SwP.lcIf_an, SwP.lcIf_oo, SwP.lcIf_call, SwP.c_neNN, SwP.c_eqNN, SwP.cut_takeI, SwP.cut_dropI, SwP.cut_m1, Int.reduceToNat, eq_self, Int.neg_neg, Int.toNat_natCast, e3, e4, r3, r4, u3, u4, wr_ok]
      exact ⟨rfl, rfl⟩
  rw [e, h1, h2]
theorem law_pure (ns : List Int) (hl : ns.length ≤ 63) : ∃ ws, callD prog 16 11 [.im (.lst (ns.map .int))] = some (some (.im (.bl true), ws)) := by
  have key : Calls (callD prog (15 + 1)) 11 [.im (.lst (ns.map .int))] fun t ws => t = .im (.bl true) := by
    refine calls_of (fn := f_law) rfl rfl ?_
    show WR (sx _ f_law.body [.im (.lst (ns.map .int)), .un, .un, .un]) _
    unfold f_law
    have hr : max 1 (min 4 ((ns.map D.int).length : Int)) = ((max 1 (min 4 ns.length) : Nat) : Int) := by rw [List.length_map]; omega
    have hr2 : max 1 (min 4 ns.length) < 1000000 := by omega
    simp -implicitDefEqProofs only [SwP.bnd_ok, SwP.bnd_bad, SwP.rof_some, SwP.ev_c, SwP.ev_v, SwP.kOp2, SwP.kOp, SwP.ev_op, SwP.kCmp2, SwP.kCmp, SwP.ev_cmp, SwP.cmpR_eq, SwP.mapB, SwP.mapD, SwP.mapO, SwP.kChain, SwP.kChain2, SwP.kChain3, SwP.kChain4, SwP.ev_chain, SwP.kNeg, SwP.ev_neg, SwP.tst_eq, SwP.kTru, SwP.kNo, SwP.ev_no, SwP.kAn, SwP.kAn2, SwP.ev_an, SwP.kOo, SwP.kOo2, SwP.ev_oo, SwP.kIfE, SwP.ev_ite, SwP.ev_tup, SwP.ev_lst, SwP.kIx, SwP.kIx2, SwP.ev_ix, SwP.kSl, SwP.kSl2, SwP.kSl3, SwP.ev_sl, SwP.kRv, SwP.ev_rv, SwP.kCall_eq, SwP.dcIf_t, SwP.dcAt_eq, SwP.dcBack_eq, SwP.ev_call, SwP.kBi, SwP.ev_len, SwP.ev_tuple, SwP.ev_list, SwP.ev_sorted, SwP.ev_sum, SwP.ev_repr, SwP.ev_isinst, SwP.ev_max, SwP.ev_min, SwP.ev_set, SwP.ev_int, SwP.kMtV2, SwP.kMtV, SwP.mtAt_t, SwP.mtAt_f, SwP.kMtS_eq, SwP.ev_mt, SwP.ev_lc, SwP.ev_col, SwP.kCol, SwP.evs_nil, SwP.evs_cons, SwP.kEvs, SwP.kEvs2, SwP.evt_nil, SwP.evt_cons, SwP.kEvt, SwP.kEvt2, SwP.evo_nil, SwP.evo_c, SwP.evo_v, SwP.evo_op, SwP.evo_neg, SwP.evo_call, SwP.kBd, SwP.evi_range, SwP.evi_zip, SwP.evi_enum, SwP.evi_rev, SwP.evi_v, SwP.evi_c, SwP.evi_ix, SwP.evi_sl, SwP.evi_tup, SwP.evi_lst, SwP.evi_call, SwP.evi_op, SwP.evi_rv, SwP.evi_lc, SwP.evi_sorted, SwP.kSeqOf, SwP.kWalk, SwP.eva_nil, SwP.eva_v, SwP.eva_c, SwP.eva_op, SwP.eva_neg, SwP.eva_ix, SwP.eva_sl, SwP.eva_rv, SwP.eva_tup, SwP.eva_lst, SwP.eva_call, SwP.eva_bi, SwP.eva_lc, SwP.eva_col, SwP.eva_ite, SwP.eva_mt, SwP.kAg, SwP.kAg2, SwP.kAgD, SwP.kAgM, SwP.agM2_mu, SwP.agV_mu, SwP.agV_im, SwP.agV_fz, SwP.sx_skip, SwP.sx_seq, SwP.kSeq_nx, SwP.kSeq_rt, SwP.kSeq_bk, SwP.kSeq_ct, SwP.kPut, SwP.kGive, SwP.sx_asgN, SwP.sx_asgT, SwP.kSix, SwP.kSix2, SwP.sixAt_t, SwP.sx_six, SwP.kSwp, SwP.kSwp2, SwP.kSwp4, SwP.kSwp5, SwP.swpAt_t, SwP.sx_swp, SwP.augP_s, SwP.kAug2_int, SwP.kAug, SwP.sx_aug, SwP.kEx, SwP.sx_ex, SwP.kRet, SwP.sx_retv, SwP.sx_ite, SwP.kIte_t, SwP.kIte_f, SwP.sx_for, SwP.sx_wh, SwP.sx_brk, SwP.sx_cont, SwP.rt_c, SwP.rt_op, SwP.rt_cmp, SwP.rt_chain, SwP.rt_neg, SwP.rt_no, SwP.rt_an, SwP.rt_oo, SwP.rt_ite, SwP.rt_tup, SwP.rt_lst, SwP.rt_ix, SwP.rt_sl, SwP.rt_rv, SwP.rt_call, SwP.rt_bi, SwP.rt_mt, SwP.rt_lc, SwP.rt_col, SwP.fr_im, SwP.fr_un, SwP.fr_mu, SwP.canSet_zero, SwP.canSet_succ, SwP.put_eq, SwP.putIf_t, SwP.putF_s, SwP.setW_zero, SwP.setW_succ, SwP.ofT_im, SwP.ofT_nu, SwP.rdV_eq, SwP.rdW_im, SwP.rdW_fz, SwP.rdW_l, SwP.rdW_s, SwP.rdW_kf, SwP.rdW_kt, SwP.isMu_eq, SwP.isMuW_l, SwP.isMuW_pop, SwP.isMuW_ix, SwP.isMuW_lix, SwP.isMuW_add, SwP.isMuW_im, SwP.isMuW_fz, SwP.storeAt_im, SwP.storeW_0, SwP.storeW_1, SwP.aug_add, SwP.aug_sub, SwP.retV_m, SwP.retV_im, SwP.retV_mt, SwP.retV_fz, SwP.agsOk_nil, SwP.agsOk_n, SwP.agsOk_s, SwP.ws_nil, SwP.ws_cons, SwP.gb_nil, SwP.gb_n, SwP.gb_s, SwP.gbW_m, SwP.gbW_fT, SwP.gbW_fF, SwP.give_n, SwP.give_t, SwP.give_l, SwP.give_p, SwP.gives_nil, SwP.gives_cons, SwP.givesK_s, SwP.wipe_nil, SwP.wipe_cons, SwP.unw_nil, SwP.unw_cons, SwP.b_add, SwP.b_sub, SwP.b_mul, SwP.mulOk_l, SwP.mulOk_r, SwP.b_fdiv, SwP.b_mod, SwP.b_pow18, SwP.c_lt, SwP.c_le, SwP.c_gt, SwP.c_ge, SwP.c_eqI, SwP.c_neI, SwP.c_isN, SwP.c_isnN, SwP.t_bl, SwP.t_int, SwP.t_tup, SwP.t_lst, SwP.t_nu, SwP.t_non, SwP.d_im, SwP.d_nu, SwP.intOf_i, SwP.seq_t, SwP.seq_l, SwP.seq_n, SwP.ix_t, SwP.ix_l, SwP.ix_n, SwP.atIx_0, SwP.atIx_1, SwP.atIx_2, SwP.atIx_m1, SwP.sl_t, SwP.sl_l, SwP.sl_n, SwP.rv_t, SwP.rv_l, SwP.rv_n, SwP.int_b, SwP.int_i, SwP.len_t, SwP.len_l, SwP.len_n, SwP.tuple_t, SwP.tuple_l, SwP.tuple_n, SwP.list_t, SwP.list_l, SwP.list_n, SwP.max_i, SwP.min_i, SwP.isi_ii, SwP.isi_ib, SwP.isi_bb, SwP.isi_tt, SwP.w_range, SwP.w_zipT, SwP.w_zipL, SwP.w_enumT, SwP.w_enumL, SwP.w_revT, List.getElem?_cons_zero, List.getElem?_cons_succ, List.contains_nil, List.contains_cons, Bool.not_true, Bool.not_false, Bool.true_and, Bool.and_true, Bool.false_or, Bool.or_false, List.getD_cons_zero, List.getD_cons_succ, Option.map_some, Int.reduceNeg, Nat.reduceLT, Nat.reduceLeDiff, Int.reduceLT, Int.reduceLE, Int.reduceEq, Int.reduceAdd, Int.reduceSub, Int.reduceMul, Nat.reduceAdd, Nat.reduceBEq, Nat.reduceEqDiff, decide_true, decide_false, SwP.mkTup_eq, SwP.mkLst_eq, SwP.b_addT, SwP.b_addNN, SwP.b_addIN, SwP.b_addNI, SwP.mt_append, SwP.mt_popAt, SwP.mt_pop, SwP.col_t, SwP.col_l, List.length_cons, List.length_nil, SwP.nums_len, SwP.prs_len, SwP.upto_len, SL, SwP.range_1, SwP.sorted_prs, SwP.sorted_prsI, SwP.lcIf_nil, SwP.lcIf_no, SwP.lcIf_cmp, SwP.lcIf_chain, SwP.lcIf_an, SwP.lcIf_oo, SwP.lcIf_call, SwP.c_neNN, SwP.c_eqNN, SwP.cut_takeI, SwP.cut_dropI, SwP.cut_m1, Int.reduceToNat, eq_self, Int.neg_neg, Int.toNat_natCast, hr, hr2]
    simp only [wr_bnd]
    refine wr_for (I := fun i env => ∃ w1 w2 w3, env = [.im (.lst (ns.map .int)), w1, w2, w3] ∧ fr w1 = true ∧ fr w2 = true ∧ fr w3 = true) ⟨_, _, _, rfl, rfl, rfl, rfl⟩ ?_ ?_
    · rintro i hi env ⟨w1, w2, w3, rfl, f1, f2, f3⟩
      refine ⟨_, by simp -implicitDefEqProofs only [SwP.bnd_ok, SwP.bnd_bad, SwP.rof_some, SwP.ev_c, SwP.ev_v, SwP.kOp2, SwP.kOp, SwP.ev_op, SwP.kCmp2, SwP.kCmp, SwP.ev_cmp, SwP.cmpR_eq, SwP.mapB, SwP.mapD, SwP.mapO, SwP.kChain, SwP.kChain2, SwP.kChain3, SwP.kChain4, SwP.ev_chain, SwP.kNeg, SwP.ev_neg, SwP.tst_eq, SwP.kTru, SwP.kNo, SwP.ev_no, SwP.kAn, SwP.kAn2, SwP.ev_an, SwP.kOo, SwP.kOo2, SwP.ev_oo, SwP.kIfE, SwP.ev_ite, SwP.ev_tup, SwP.ev_lst, SwP.kIx, SwP.kIx2, SwP.ev_ix, SwP.kSl, SwP.kSl2, SwP.kSl3, SwP.ev_sl, SwP.kRv, SwP.ev_rv, SwP.kCall_eq, SwP.dcIf_t, SwP.dcAt_eq, SwP.dcBack_eq, SwP.ev_call, SwP.kBi, SwP.ev_len, SwP.ev_tuple, SwP.ev_list, SwP.ev_sorted, SwP.ev_sum, SwP.ev_repr, SwP.ev_isinst, SwP.ev_max, SwP.ev_min, SwP.ev_set, SwP.ev_int, SwP.kMtV2, SwP.kMtV, SwP.mtAt_t, SwP.mtAt_f, SwP.kMtS_eq, SwP.ev_mt, SwP.ev_lc, SwP.ev_col, SwP.kCol, SwP.evs_nil, SwP.evs_cons, SwP.kEvs, SwP.kEvs2, SwP.evt_nil, SwP.evt_cons, SwP.kEvt, SwP.kEvt2, SwP.evo_nil, SwP.evo_c, SwP.evo_v, SwP.evo_op, SwP.evo_neg, SwP.evo_call, SwP.kBd, SwP.evi_range, SwP.evi_zip, SwP.evi_enum, SwP.evi_rev, SwP.evi_v, SwP.evi_c, SwP.evi_ix, SwP.evi_sl, SwP.evi_tup, SwP.evi_lst, SwP.evi_call, SwP.evi_op, SwP.evi_rv, SwP.evi_lc, SwP.evi_sorted, SwP.kSeqOf, SwP.kWalk, SwP.eva_nil, SwP.eva_v, SwP.eva_c, SwP.eva_op, SwP.eva_neg, SwP.eva_ix, SwP.eva_sl, SwP.eva_rv, SwP.eva_tup, SwP.eva_lst, SwP.eva_call, SwP.eva_bi, SwP.eva_lc, SwP.eva_col, SwP.eva_ite, SwP.eva_mt, SwP.kAg, SwP.kAg2, SwP.kAgD, SwP.kAgM, SwP.agM2_mu, SwP.agV_mu, SwP.agV_im, SwP.agV_fz, SwP.sx_skip, SwP.sx_seq, SwP.kSeq_nx, SwP.kSeq_rt, SwP.kSeq_bk, SwP.kSeq_ct, SwP.kPut, SwP.kGive, SwP.sx_asgN, SwP.sx_asgT, SwP.kSix, SwP.kSix2, SwP.sixAt_t, SwP.sx_six, SwP.kSwp, SwP.kSwp2, SwP.kSwp4, SwP.kSwp5, SwP.swpAt_t, SwP.sx_swp, SwP.augP_s, SwP.kAug2_int, SwP.kAug, SwP.sx_aug, SwP.kEx, SwP.sx_ex, SwP.kRet, SwP.sx_retv, SwP.sx_ite, SwP.kIte_t, SwP.kIte_f, SwP.sx_for, SwP.sx_wh, SwP.sx_brk, SwP.sx_cont, SwP.rt_c, SwP.rt_op, SwP.rt_cmp, SwP.rt_chain, SwP.rt_neg, SwP.rt_no, SwP.rt_an, SwP.rt_oo, SwP.rt_ite, SwP.rt_tup, SwP.rt_lst, SwP.rt_ix, SwP.rt_sl, SwP.rt_rv, SwP.rt_call, SwP.rt_bi, SwP.rt_mt, SwP.rt_lc, SwP.rt_col, SwP.fr_im, SwP.fr_un, SwP.fr_mu, SwP.canSet_zero, SwP.canSet_succ, SwP.put_eq, SwP.putIf_t, SwP.putF_s, SwP.setW_zero, SwP.setW_succ, SwP.ofT_im, SwP.ofT_nu, SwP.rdV_eq, SwP.rdW_im, SwP.rdW_fz, SwP.rdW_l, SwP.rdW_s, SwP.rdW_kf, SwP.rdW_kt, SwP.isMu_eq, SwP.isMuW_l, SwP.isMuW_pop, SwP.isMuW_ix, SwP.isMuW_lix, SwP.isMuW_add, SwP.isMuW_im, SwP.isMuW_fz, SwP.storeAt_im, SwP.storeW_0, SwP.storeW_1, SwP.aug_add, SwP.aug_sub, SwP.retV_m, SwP.retV_im, SwP.retV_mt, SwP.retV_fz, SwP.agsOk_nil, SwP.agsOk_n, SwP.agsOk_s, SwP.ws_nil, SwP.ws_cons, SwP.gb_nil, SwP.gb_n, SwP.gb_s, SwP.gbW_m, SwP.gbW_fT, SwP.gbW_fF, SwP.give_n, SwP.give_t, SwP.give_l, SwP.give_p, SwP.gives_nil, SwP.gives_cons, SwP.givesK_s, SwP.wipe_nil, SwP.wipe_cons, SwP.unw_nil, SwP.unw_cons, SwP.b_add, SwP.b_sub, SwP.b_mul, SwP.mulOk_l, SwP.mulOk_r, SwP.b_fdiv, SwP.b_mod, SwP.b_pow18, SwP.c_lt, SwP.c_le, SwP.c_gt, SwP.c_ge, SwP.c_eqI, SwP.c_neI, SwP.c_isN, SwP.c_isnN, SwP.t_bl, SwP.t_int, SwP.t_tup, SwP.t_lst, SwP.t_nu, SwP.t_non, SwP.d_im, SwP.d_nu, SwP.intOf_i, SwP.seq_t, SwP.seq_l, SwP.seq_n, SwP.ix_t, SwP.ix_l, SwP.ix_n, SwP.atIx_0, SwP.atIx_1, SwP.atIx_2, SwP.atIx_m1, SwP.sl_t, SwP.sl_l, SwP.sl_n, SwP.rv_t, SwP.rv_l, SwP.rv_n, SwP.int_b, SwP.int_i, SwP.len_t, SwP.len_l, SwP.len_n, SwP.tuple_t, SwP.tuple_l, SwP.tuple_n, SwP.list_t, SwP.list_l, SwP.list_n, SwP.max_i, SwP.min_i, SwP.isi_ii, SwP.isi_ib, SwP.isi_bb, SwP.isi_tt, SwP.w_range, SwP.w_zipT, SwP.w_zipL, SwP.w_enumT, SwP.w_enumL, SwP.w_revT, List.getElem?_cons_zero, List.getElem?_cons_succ, List.contains_nil, List.contains_cons, Bool.not_true, Bool.not_false, Bool.true_and, Bool.and_true, Bool.false_or, Bool.or_false, List.getD_cons_zero, List.getD_cons_succ, Option.map_some, Int.reduceNeg, Nat.reduceLT, Nat.reduceLeDiff, Int.reduceLT, Int.reduceLE, Int.reduceEq, Int.reduceAdd, Int.reduceSub, Int.reduceMul, Nat.reduceAdd, Nat.reduceBEq, Nat.reduceEqDiff, decide_true, decide_false, SwP.mkTup_eq, SwP.mkLst_eq, SwP.b_addT, SwP.b_addNN, SwP.b_addIN, SwP.b_addNI, SwP.mt_append, SwP.mt_popAt, SwP.mt_pop, SwP.col_t, SwP.col_l, List.length_cons, List.length_nil, SwP.nums_len, SwP.prs_len, SwP.upto_len, SL, SwP.range_1, SwP.sorted_prs, SwP.sorted_prsI, SwP.lcIf_nil, SwP.lcIf_no, SwP.lcIf_cmp, SwP.lcIf_chain, SwP.lcIf_an, SwP.lcIf_oo, SwP.lcIf_call, SwP.c_neNN, SwP.c_eqNN, SwP.cut_takeI, SwP.cut_dropI, SwP.cut_m1, Int.reduceToNat, eq_self, Int.neg_neg, Int.toNat_natCast, f1, upto_get]; rfl, ?_⟩
      obtain ⟨_, _, e0, c, rfl, rfl⟩ := cellAt 14 ns i
      obtain ⟨_, _, e1, d0, rfl, rfl, hd0⟩ := beginB 14 c
      obtain ⟨_, _, e3, m, A, d2, rfl, a1, a2, a3, a4, rfl, hd2⟩ := netB 12 hd0 (great := 32) (long := 20) (by omega) (by omega) (by omega)
      simp only [Int.cast_ofNat_Int] at e3
      have hA : NN m A := ⟨a1, a2, a3, a4⟩
      obtain ⟨_, _, e4, U, d3, rfl, fU, rfl, hd3⟩ := hA.set 13 hd2
      have q := rightB 12 (hA.ns fU)
      simp -implicitDefEqProofs only [SwP.bnd_ok, SwP.bnd_bad, SwP.rof_some, SwP.ev_c, SwP.ev_v, SwP.kOp2, SwP.kOp, SwP.ev_op, SwP.kCmp2, SwP.kCmp, SwP.ev_cmp, SwP.cmpR_eq, SwP.mapB, SwP.mapD, SwP.mapO, SwP.kChain, SwP.kChain2, SwP.kChain3, SwP.kChain4, SwP.ev_chain, SwP.kNeg, SwP.ev_neg, SwP.tst_eq, SwP.kTru, SwP.kNo, SwP.ev_no, SwP.kAn, SwP.kAn2, SwP.ev_an, SwP.kOo, SwP.kOo2, SwP.ev_oo, SwP.kIfE, SwP.ev_ite, SwP.ev_tup, SwP.ev_lst, SwP.kIx, SwP.kIx2, SwP.ev_ix, SwP.kSl, SwP.kSl2, SwP.kSl3, SwP.ev_sl, SwP.kRv, SwP.ev_rv, SwP.kCall_eq, SwP.dcIf_t, SwP.dcAt_eq, SwP.dcBack_eq, SwP.ev_call, SwP.kBi, SwP.ev_len, SwP.ev_tuple, SwP.ev_list, SwP.ev_sorted, SwP.ev_sum, SwP.ev_repr, SwP.ev_isinst, SwP.ev_max, SwP.ev_min, SwP.ev_set, SwP.ev_int, SwP.kMtV2, SwP.kMtV, SwP.mtAt_t, SwP.mtAt_f, SwP.kMtS_eq, SwP.ev_mt, SwP.ev_lc, SwP.ev_col, SwP.kCol, SwP.evs_nil, SwP.evs_cons, SwP.kEvs, SwP.kEvs2, SwP.evt_nil, SwP.evt_cons, SwP.kEvt, SwP.kEvt2, SwP.evo_nil, SwP.evo_c, SwP.evo_v, SwP.evo_op, SwP.evo_neg, SwP.evo_call, SwP.kBd, SwP.evi_range, SwP.evi_zip, SwP.evi_enum, SwP.evi_rev, SwP.evi_v, SwP.evi_c, SwP.evi_ix, SwP.evi_sl, SwP.evi_tup, SwP.evi_lst, SwP.evi_call, SwP.evi_op, SwP.evi_rv, SwP.evi_lc, SwP.evi_sorted, SwP.kSeqOf, SwP.kWalk, SwP.eva_nil, SwP.eva_v, SwP.eva_c, SwP.eva_op, SwP.eva_neg, SwP.eva_ix, SwP.eva_sl, SwP.eva_rv, SwP.eva_tup, SwP.eva_lst, SwP.eva_call, SwP.eva_bi, SwP.eva_lc, SwP.eva_col, SwP.eva_ite, SwP.eva_mt, SwP.kAg, SwP.kAg2, SwP.kAgD, SwP.kAgM, SwP.agM2_mu, SwP.agV_mu, SwP.agV_im, SwP.agV_fz, SwP.sx_skip, SwP.sx_seq, SwP.kSeq_nx, SwP.kSeq_rt, SwP.kSeq_bk, SwP.kSeq_ct, SwP.kPut, SwP.kGive, SwP.sx_asgN, SwP.sx_asgT, SwP.kSix, SwP.kSix2, SwP.sixAt_t, SwP.sx_six, SwP.kSwp, SwP.kSwp2, SwP.kSwp4, SwP.kSwp5, SwP.swpAt_t, SwP.sx_swp, SwP.augP_s, SwP.kAug2_int, SwP.kAug, SwP.sx_aug, SwP.kEx, SwP.sx_ex, SwP.kRet, SwP.sx_retv, SwP.sx_ite, SwP.kIte_t, SwP.kIte_f, SwP.sx_for, SwP.sx_wh, SwP.sx_brk, SwP.sx_cont, SwP.rt_c, SwP.rt_op, SwP.rt_cmp, SwP.rt_chain, SwP.rt_neg, SwP.rt_no, SwP.rt_an, SwP.rt_oo, SwP.rt_ite, SwP.rt_tup, SwP.rt_lst, SwP.rt_ix, SwP.rt_sl, SwP.rt_rv, SwP.rt_call, SwP.rt_bi, SwP.rt_mt, SwP.rt_lc, SwP.rt_col, SwP.fr_im, SwP.fr_un, SwP.fr_mu, SwP.canSet_zero, SwP.canSet_succ, SwP.put_eq, SwP.putIf_t, SwP.putF_s, SwP.setW_zero, SwP.setW_succ, SwP.ofT_im, SwP.ofT_nu, SwP.rdV_eq, SwP.rdW_im, SwP.rdW_fz, SwP.rdW_l, SwP.rdW_s, SwP.rdW_kf, SwP.rdW_kt, SwP.isMu_eq, SwP.isMuW_l, SwP.isMuW_pop, SwP.isMuW_ix, SwP.isMuW_lix, SwP.isMuW_add, SwP.isMuW_im, SwP.isMuW_fz, SwP.storeAt_im, SwP.storeW_0, SwP.storeW_1, SwP.aug_add, SwP.aug_sub, SwP.retV_m, SwP.retV_im, SwP.retV_mt, SwP.retV_fz, SwP.agsOk_nil, SwP.agsOk_n, SwP.agsOk_s, SwP.ws_nil, SwP.ws_cons, SwP.gb_nil, SwP.gb_n, SwP.gb_s, SwP.gbW_m, SwP.gbW_fT, SwP.gbW_fF, SwP.give_n, SwP.give_t, SwP.give_l, SwP.give_p, SwP.gives_nil, SwP.gives_cons, SwP.givesK_s, SwP.wipe_nil, SwP.wipe_cons, SwP.unw_nil, SwP.unw_cons, SwP.b_add, SwP.b_sub, SwP.b_mul, SwP.mulOk_l, SwP.mulOk_r, SwP.b_fdiv, SwP.b_mod, SwP.b_pow18, SwP.c_lt, SwP.c_le, SwP.c_gt, SwP.c_ge, SwP.c_eqI, SwP.c_neI, SwP.c_isN, SwP.c_isnN, SwP.t_bl, SwP.t_int, SwP.t_tup, SwP.t_lst, SwP.t_nu, SwP.t_non, SwP.d_im, SwP.d_nu, SwP.intOf_i, SwP.seq_t, SwP.seq_l, SwP.seq_n, SwP.ix_t, SwP.ix_l, SwP.ix_n, SwP.atIx_0, SwP.atIx_1, SwP.atIx_2, SwP.atIx_m1, SwP.sl_t, SwP.sl_l, SwP.sl_n, SwP.rv_t, SwP.rv_l, SwP.rv_n, SwP.int_b, SwP.int_i, SwP.len_t, SwP.len_l, SwP.len_n, SwP.tuple_t, SwP.tuple_l, SwP.tuple_n, SwP.list_t, SwP.list_l, SwP.list_n, SwP.max_i, SwP.min_i, SwP.isi_ii, SwP.isi_ib, SwP.isi_bb, SwP.isi_tt, SwP.w_range, SwP.w_zipT, SwP.w_zipL, SwP.w_enumT, SwP.w_enumL, SwP.w_revT, List.getElem?_cons_zero, List.getElem?_cons_succ, List.contains_nil, List.contains_cons, Bool.not_true, Bool.not_false, Bool.true_and, Bool.and_true, Bool.false_or, Bool.or_false, List.getD_cons_zero, List.getD_cons_succ, Option.map_some, Int.reduceNeg, Nat.reduceLT, Nat.reduceLeDiff, Int.reduceLT, Int.reduceLE, Int.reduceEq, Int.reduceAdd, Int.reduceSub, Int.reduceMul, Nat.reduceAdd, Nat.reduceBEq, Nat.reduceEqDiff, decide_true, decide_false, SwP.mkTup_eq, SwP.mkLst_eq, SwP.b_addT, SwP.b_addNN, SwP.b_addIN, SwP.b_addNI, SwP.mt_append, SwP.mt_popAt, SwP.mt_pop, SwP.col_t, SwP.col_l, List.length_cons, List.length_nil, SwP.nums_len, SwP.prs_len, SwP.upto_len, SL, SwP.range_1, SwP.sorted_prs, SwP.sorted_prsI, SwP.lcIf_nil, SwP.lcIf_no, SwP.lcIf_cmp, SwP.lcIf_chain, SwP.lcIf_an, SwP.lcIf_oo, SwP.lcIf_call, SwP.c_neNN, SwP.c_eqNN, SwP.cut_takeI, SwP.cut_dropI, SwP.cut_m1, Int.reduceToNat, eq_self, Int.neg_neg, Int.toNat_natCast, e0, e1, e3, f2, f3, e4, q, wr_ok]
      exact ⟨_, _, _, rfl, rfl, rfl, rfl⟩
    · rintro env ⟨w1, w2, w3, rfl, f1, f2, f3⟩
      have q1 : callD prog 15 10 [.im (.tup [.int 1, .tup []]), .im (.tup [])] = some (some (.im (.bl true), [.im (.tup [.int 1, .tup []]), .im (.tup [])])) := by kernel_rfl
      have q2 : callD prog 15 10 [.im (.tup [.int 2, .tup [.tup [], .tup [.tup [.int 0, .int 1]]]]), .im (.tup [.tup [], .tup [.int 1]])] = some (some (.im (.bl true), [.im (.tup [.int 2, .tup [.tup [], .tup [.tup [.int 0, .int 1]]]]), .im (.tup [.tup [], .tup [.int 1]])])) := by kernel_rfl
      simp -implicitDefEqProofs only [SwP.bnd_ok, SwP.bnd_bad, SwP.rof_some, SwP.ev_c, SwP.ev_v, SwP.kOp2, SwP.kOp, SwP.ev_op, SwP.kCmp2, SwP.kCmp, SwP.ev_cmp, SwP.cmpR_eq, SwP.mapB, SwP.mapD, SwP.mapO, SwP.kChain, SwP.kChain2, SwP.kChain3, SwP.kChain4, SwP.ev_chain, SwP.kNeg, SwP.ev_neg, SwP.tst_eq, SwP.kTru, SwP.kNo, SwP.ev_no, SwP.kAn, SwP.kAn2, SwP.ev_an, SwP.kOo, SwP.kOo2, SwP.ev_oo, SwP.kIfE, SwP.ev_ite, SwP.ev_tup, SwP.ev_lst, SwP.kIx, SwP.kIx2, SwP.ev_ix, SwP.kSl, SwP.kSl2, SwP.kSl3, SwP.ev_sl, SwP.kRv, SwP.ev_rv, SwP.kCall_eq, SwP.dcIf_t, SwP.dcAt_eq, SwP.dcBack_eq, SwP.ev_call, SwP.kBi, SwP.ev_len, SwP.ev_tuple, SwP.ev_list, SwP.ev_sorted, SwP.ev_sum, SwP.ev_repr, SwP.ev_isinst, SwP.ev_max, SwP.ev_min, SwP.ev_set, SwP.ev_int, SwP.kMtV2, SwP.kMtV, SwP.mtAt_t, SwP.mtAt_f, SwP.kMtS_eq, SwP.ev_mt, SwP.ev_lc, SwP.ev_col, SwP.kCol, SwP.evs_nil, SwP.evs_cons, SwP.kEvs, SwP.kEvs2, SwP.evt_nil, SwP.evt_cons, SwP.kEvt, SwP.kEvt2, SwP.evo_nil, SwP.evo_c, SwP.evo_v, SwP.evo_op, SwP.evo_neg, SwP.evo_call, SwP.kBd, SwP.evi_range, SwP.evi_zip, SwP.evi_enum, SwP.evi_rev, SwP.evi_v, SwP.evi_c, SwP.evi_ix, SwP.evi_sl, SwP.evi_tup, SwP.evi_lst, SwP.evi_call, SwP.evi_op, SwP.evi_rv, SwP.evi_lc, SwP.evi_sorted, SwP.kSeqOf, SwP.kWalk, SwP.eva_nil, SwP.eva_v, SwP.eva_c, SwP.eva_op, SwP.eva_neg, SwP.eva_ix, SwP.eva_sl, SwP.eva_rv, SwP.eva_tup, SwP.eva_lst, SwP.eva_call, SwP.eva_bi, SwP.eva_lc, SwP.eva_col, SwP.eva_ite, SwP.eva_mt, SwP.kAg, SwP.kAg2, SwP.kAgD, SwP.kAgM, SwP.agM2_mu, SwP.agV_mu, SwP.agV_im, SwP.agV_fz, SwP.sx_skip, SwP.sx_seq, SwP.kSeq_nx, SwP.kSeq_rt, SwP.kSeq_bk, SwP.kSeq_ct, SwP.kPut, SwP.kGive, SwP.sx_asgN, SwP.sx_asgT, SwP.kSix, SwP.kSix2, SwP.sixAt_t, SwP.sx_six, SwP.kSwp, SwP.kSwp2, SwP.kSwp4, SwP.kSwp5, SwP.swpAt_t, SwP.sx_swp, SwP.augP_s, SwP.kAug2_int, SwP.kAug, SwP.sx_aug, SwP.kEx, SwP.sx_ex, SwP.kRet, SwP.sx_retv, SwP.sx_ite, SwP.kIte_t, SwP.kIte_f, SwP.sx_for, SwP.sx_wh, SwP.sx_brk, SwP.sx_cont, SwP.rt_c, SwP.rt_op, SwP.rt_cmp, SwP.rt_chain, SwP.rt_neg, SwP.rt_no, SwP.rt_an, SwP.rt_oo, SwP.rt_ite, SwP.rt_tup, SwP.rt_lst, SwP.rt_ix, SwP.rt_sl, SwP.rt_rv, SwP.rt_call, SwP.rt_bi, SwP.rt_mt, SwP.rt_lc, SwP.rt_col, SwP.fr_im, SwP.fr_un, SwP.fr_mu, SwP.canSet_zero, SwP.canSet_succ, SwP.put_eq, SwP.putIf_t, SwP.putF_s, SwP.setW_zero, SwP.setW_succ, SwP.ofT_im, SwP.ofT_nu, SwP.rdV_eq, SwP.rdW_im, SwP.rdW_fz, SwP.rdW_l, SwP.rdW_s, SwP.rdW_kf, SwP.rdW_kt, SwP.isMu_eq, SwP.isMuW_l, SwP.isMuW_pop, SwP.isMuW_ix, SwP.isMuW_lix, SwP.isMuW_add, SwP.isMuW_im, SwP.isMuW_fz, SwP.storeAt_im, SwP.storeW_0, SwP.storeW_1, SwP.aug_add, SwP.aug_sub, SwP.retV_m, SwP.retV_im, SwP.retV_mt, SwP.retV_fz, SwP.agsOk_nil, SwP.agsOk_n, SwP.agsOk_s, SwP.ws_nil, SwP.ws_cons, SwP.gb_nil, SwP.gb_n, SwP.gb_s, SwP.gbW_m, SwP.gbW_fT, SwP.gbW_fF, SwP.give_n, SwP.give_t, SwP.give_l, SwP.give_p, SwP.gives_nil, SwP.gives_cons, SwP.givesK_s, SwP.wipe_nil, SwP.wipe_cons, SwP.unw_nil, SwP.unw_cons, SwP.b_add, SwP.b_sub, SwP.b_mul, SwP.mulOk_l, SwP.mulOk_r, SwP.b_fdiv, SwP.b_mod, SwP.b_pow18, SwP.c_lt, SwP.c_le, SwP.c_gt, SwP.c_ge, SwP.c_eqI, SwP.c_neI, SwP.c_isN, SwP.c_isnN, SwP.t_bl, SwP.t_int, SwP.t_tup, SwP.t_lst, SwP.t_nu, SwP.t_non, SwP.d_im, SwP.d_nu, SwP.intOf_i, SwP.seq_t, SwP.seq_l, SwP.seq_n, SwP.ix_t, SwP.ix_l, SwP.ix_n, SwP.atIx_0, SwP.atIx_1, SwP.atIx_2, SwP.atIx_m1, SwP.sl_t, SwP.sl_l, SwP.sl_n, SwP.rv_t, SwP.rv_l, SwP.rv_n, SwP.int_b, SwP.int_i, SwP.len_t, SwP.len_l, SwP.len_n, SwP.tuple_t, SwP.tuple_l, SwP.tuple_n, SwP.list_t, SwP.list_l, SwP.list_n, SwP.max_i, SwP.min_i, SwP.isi_ii, SwP.isi_ib, SwP.isi_bb, SwP.isi_tt, SwP.w_range, SwP.w_zipT, SwP.w_zipL, SwP.w_enumT, SwP.w_enumL, SwP.w_revT, List.getElem?_cons_zero, List.getElem?_cons_succ, List.contains_nil, List.contains_cons, Bool.not_true, Bool.not_false, Bool.true_and, Bool.and_true, Bool.false_or, Bool.or_false, List.getD_cons_zero, List.getD_cons_succ, Option.map_some, Int.reduceNeg, Nat.reduceLT, Nat.reduceLeDiff, Int.reduceLT, Int.reduceLE, Int.reduceEq, Int.reduceAdd, Int.reduceSub, Int.reduceMul, Nat.reduceAdd, Nat.reduceBEq, Nat.reduceEqDiff, decide_true, decide_false, SwP.mkTup_eq, SwP.mkLst_eq, SwP.b_addT, SwP.b_addNN, SwP.b_addIN, SwP.b_addNI, SwP.mt_append, SwP.mt_popAt, SwP.mt_pop, SwP.col_t, SwP.col_l, List.length_cons, List.length_nil, SwP.nums_len, SwP.prs_len, SwP.upto_len, SL, SwP.range_1, SwP.sorted_prs, SwP.sorted_prsI, SwP.lcIf_nil, SwP.lcIf_no, SwP.lcIf_cmp, SwP.lcIf_chain, SwP.lcIf_an, SwP.lcIf_oo, SwP.lcIf_call, SwP.c_neNN, SwP.c_eqNN, SwP.cut_takeI, SwP.cut_dropI, SwP.cut_m1, Int.reduceToNat, eq_self, Int.neg_neg, Int.toNat_natCast, q1, q2, wr_ok]
      rfl
  obtain ⟨t, ws, e, rfl⟩ := key
  exact ⟨ws, e⟩
end SwK

set_option maxHeartbeats 200000
namespace SwK
open PySem PySem.Spec PyProof.Rows L2 Sw
theorem law_all : ∀ ns : List Int, ns.length ≤ 63 → (∀ z ∈ ns, Builtin.Int.intBits z ≤ 1048576) → ∃ ws, callD prog 16 11 [.im (.lst (ns.map .int))] = some (some (.im (.bl true), ws)) := fun ns hl _ => law_pure ns hl
end SwK

open PySem PySem.W PyProof.Rows
set_option maxHeartbeats 0 in
theorem PySem.Challenge.cw_switchrows_k12_nets_about_holds : PySem.Challenge.rw_switchrows_k12_nets_about.Holds := by
  w_on; o_law; k_head; (case hw => w_witness2)
  k_fill
  refine Sw.walk_sg (l := PySem.Challenge.rw_switchrows_k12_nets_about) (n := 63) (k := 34) (x := "_law_script") rfl (by decide) rfl ⟨rfl, by decide, by decide⟩ (fun w h Y => PySem.W.kIn_of Y) ?F
  case F =>
    intro w mg fa h Y KX G hmg T
    refine' SwK.law_mk KX G hmg T SwK.law_all  ?a0 ?l0 ?u0 ?k0 ?a1 ?l1 ?u1 ?k1 ?a2 ?l2 ?u2 ?k2 ?a3 ?l3 ?u3 ?k3 ?a4 ?l4 ?u4 ?k4 ?a5 ?l5 ?u5 ?k5 ?a6 ?l6 ?u6 ?k6 ?a7 ?l7 ?u7 ?k7 ?a8 ?l8 ?u8 ?k8 ?a9 ?l9 ?u9 ?k9 ?a10 ?l10 ?u10 ?k10 ?a11 ?l11 ?u11 ?k11 ?z_len ?z_list ?z_max ?z_min ?z_range ?z_repr ?z_reversed ?z_sorted ?z_sum ?z_tuple ?z_zip
    (case a0 => k_is); (case l0 => k_is); (case u0 => k_is); (case k0 => k_is); (case a1 => k_is); (case l1 => k_is); (case u1 => k_is); (case k1 => k_is); (case a2 => k_is); (case l2 => k_is); (case u2 => k_is); (case k2 => k_is); (case a3 => k_is); (case l3 => k_is); (case u3 => k_is); (case k3 => k_is); (case a4 => k_is); (case l4 => k_is); (case u4 => k_is); (case k4 => k_is); (case a5 => k_is); (case l5 => k_is); (case u5 => k_is); (case k5 => k_is); (case a6 => k_is); (case l6 => k_is); (case u6 => k_is); (case k6 => k_is); (case a7 => k_is); (case l7 => k_is); (case u7 => k_is); (case k7 => k_is); (case a8 => k_is); (case l8 => k_is); (case u8 => k_is); (case k8 => k_is); (case a9 => k_is); (case l9 => k_is); (case u9 => k_is); (case k9 => k_is); (case a10 => k_is); (case l10 => k_is); (case u10 => k_is); (case k10 => k_is); (case a11 => k_is); (case l11 => k_is); (case u11 => k_is); (case k11 => k_is); (case z_len => k_is); (case z_list => k_is); (case z_max => k_is); (case z_min => k_is); (case z_range => k_is); (case z_repr => k_is); (case z_reversed => k_is); (case z_sorted => k_is); (case z_sum => k_is); (case z_tuple => k_is); (case z_zip => k_is)
