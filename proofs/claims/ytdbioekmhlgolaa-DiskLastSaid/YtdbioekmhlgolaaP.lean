/- Plain words on a disk: what each call answers, over lists, without any memory. -/
namespace Go.Proofs.Ytdbioekmhlgolaa.Dk

/-- A write that is not flushed: a sector, its octets. -/
structure Wr where
  pos : Int
  b : List UInt8

/-- A disk as lists. -/
structure Disk where
  dry : List UInt8
  wet : List Wr
  fuse : Int
  dead : Bool

def Disk.zero : Disk := ⟨[], [], 0, false⟩

def okWr (n : Nat) (x : Wr) : Bool := decide (x.b.length = 32 ∧ 0 ≤ x.pos ∧ x.pos < (n : Int) / 32)

def Disk.ok (d : Disk) : Bool :=
  decide (32 ≤ d.dry.length ∧ d.dry.length ≤ 262144 ∧ d.dry.length % 32 = 0 ∧ d.wet.length ≤ 8192 ∧ -1 ≤ d.fuse ∧ d.fuse ≤ 1073741824) && d.wet.all (okWr d.dry.length)

def Disk.has (d : Disk) (at_ : Int) : Bool := decide (0 ≤ at_ ∧ at_ < (d.dry.length : Int) / 32)

def fuseOk (f : Int) : Bool := decide (-1 ≤ f ∧ f ≤ 1073741824)

/-- A sector's octets. -/
def Disk.look (d : Disk) (at_ : Int) : List UInt8 :=
  match d.wet.reverse.find? (fun x => x.pos == at_) with
  | some x => x.b
  | none => (d.dry.drop (at_.toNat * 32)).take 32

/-- Some of a list put over another one from a place on. -/
def over {α : Type} (l : List α) (off : Nat) (cs : List α) : List α := l.take off ++ cs ++ l.drop (off + cs.length)

/-- Of each write so many octets, one write behind the other. -/
def pour (many : Nat → Nat) : Nat → List Wr → List UInt8 → List UInt8
  | _, [], l => l
  | i, x :: r, l => pour many (i + 1) r (over l (x.pos.toNat * 32) (x.b.take (many i)))

def keepOf (keep : List UInt8) (i : Nat) : Nat := min ((keep[i]?.map (·.toNat)).getD 0) 32

def new (n : Int) : Disk × Int := if n < 1 ∨ 8192 < n then (.zero, 1) else (⟨List.replicate (n.toNat * 32) 0, [], -1, false⟩, 0)

def check (d : Disk) : Int := if d.ok then 0 else 1

/-- Why nothing is done. -/
def ready (d : Disk) (fine : Bool) : Int := if !d.ok || !fine then 1 else if d.dead then 11 else 0

def lit (d : Disk) (f : Int) : Disk × Int := if ready d (fuseOk f) = 0 then ({ d with fuse := f }, 0) else (.zero, ready d (fuseOk f))

def read (d : Disk) (at_ : Int) : List UInt8 × Int := if ready d true = 0 then if d.has at_ then (d.look at_, 0) else ([], 5) else ([], ready d true)

/-- The fuse of a deed; no: it is not done. -/
def burn (d : Disk) : Disk × Bool := if d.fuse = 0 then ({ d with dead := true }, false) else if d.fuse = -1 then (d, true) else ({ d with fuse := d.fuse - 1 }, true)

def deed (d : Disk) (f : Disk → Disk) : Disk × Int := if (burn d).2 then (f (burn d).1, 0) else ((burn d).1, 11)

def put (at_ : Int) (b : List UInt8) (d : Disk) : Disk := { d with wet := d.wet ++ [⟨at_, b⟩] }
def dryAll (many : Nat → Nat) (d : Disk) : Disk := { d with dry := pour many 0 d.wet d.dry, wet := [] }

def write (d : Disk) (at_ : Int) (b : List UInt8) : Disk × Int :=
  if ready d (decide (b.length = 32)) = 0 then if d.has at_ then if d.wet.length = 8192 then (.zero, 7) else deed d (put at_ b) else (.zero, 5)
  else (.zero, ready d (decide (b.length = 32)))

def flush (d : Disk) : Disk × Int := if ready d true = 0 then deed d (dryAll fun _ => 32) else (.zero, ready d true)

def crash (d : Disk) (keep : List UInt8) : Disk × Int :=
  if d.ok then ({ dryAll (keepOf keep) d with fuse := -1, dead := false }, 0) else (.zero, 1)

end Go.Proofs.Ytdbioekmhlgolaa.Dk
