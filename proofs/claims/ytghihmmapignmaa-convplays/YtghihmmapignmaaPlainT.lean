/- The tables as plain lists: what each function of tab and of the reference makes of what it is handed. No Go of the program. -/
namespace Go.Proofs.Ytghihmmapignmaa

def zeros : List Int := List.replicate 256 0
def nos : List Bool := List.replicate 256 false
/-- Each byte itself, as far as k; noughts behind. -/
def idTo : Nat → List Int
  | 0 => zeros
  | k + 1 => (idTo k).set k k
def ids : List Int := idTo 256
/-- n bytes from f on become those from g on. -/
def layL (t : List Int) (f g : Nat) : Nat → List Int
  | 0 => t
  | n + 1 => (layL t f g n).set (f + n) (((g + n) % 256 : Nat) : Int)
/-- yes at the n places from f on. -/
def yesL (t : List Bool) (f : Nat) : Nat → List Bool
  | 0 => t
  | n + 1 => (yesL t f n).set (f + n) true
def lower : List Int := layL ids 65 97 26
def upper : List Int := layL ids 97 65 26
/-- One table behind another. -/
def behind (t nx : List Int) : List Int := t.map fun b => nx.getD b.toNat 0
def thenL : List (List Int) → List Int → List Int
  | [], t => t
  | nx :: r, t => thenL r (behind t nx)
/-- The first that is not taken, from n on. -/
def skip (taken : List Bool) : Nat → Nat → Nat
  | 0, n => n
  | f + 1, n => if taken.getD n false then skip taken f (n + 1) else n
/-- The rows that are named. -/
def rowsOf (c t : Nat) : List (Nat × Nat × Nat) :=
  [(0, 0, 1), (9, 5, 1), (10, 37, 1), (13, 13, 1), (32, 64, 1), (33, 90, 1), (34, 127, 1), (35, 123, 1), (36, 91, 1), (37, 108, 1), (38, 80, 1), (39, 125, 1), (40, 77, 1), (41, 93, 1), (42, 92, 1), (43, 78, 1), (44, 107, 1), (45, 96, 1), (46, 75, 1), (47, 97, 1), (48, 240, 10), (58, 122, 1), (59, 94, 1), (60, 76, 1), (61, 126, 1), (62, 110, 1), (63, 111, 1), (64, 124, 1), (65, 193, 9), (74, 209, 9), (83, 226, 8), (91, 173, 1), (92, 224, 1), (93, 189, 1), (94, c, 1), (95, 109, 1), (96, 121, 1), (97, 129, 9), (106, 145, 9), (115, 162, 8), (123, 192, 1), (124, 79, 1), (125, 208, 1), (126, t, 1)]
/-- Table, given, taken behind some rows. -/
structure St where
  t : List Int
  g : List Bool
  k : List Bool
def stRow (s : St) (r : Nat × Nat × Nat) : St := ⟨layL s.t r.1 r.2.1 r.2.2, yesL s.g r.1 r.2.2, yesL s.k r.2.1 r.2.2⟩
def st0 : St := ⟨zeros, nos, nos⟩
def stTo (c t : Nat) : Nat → St
  | 0 => st0
  | n + 1 => stRow (stTo c t n) ((rowsOf c t).getD n (0, 0, 0))
/-- Which of the two tables: what ^ and ~ become. -/
def cOf (i : Bool) : Nat := bif i then 95 else 154
def tOf (i : Bool) : Nat := bif i then 161 else 95
def stI (i : Bool) (n : Nat) : St := stTo (cOf i) (tOf i) n
/-- The next one that may be free, behind n bytes. -/
def nxTo (g k : List Bool) : Nat → Nat
  | 0 => 0
  | n + 1 => if g.getD n false then nxTo g k n else skip k 256 (nxTo g k n) + 1
/-- The other bytes, rising. -/
def fillTo (t : List Int) (g k : List Bool) : Nat → List Int
  | 0 => t
  | n + 1 => if g.getD n false then fillTo t g k n else (fillTo t g k n).set n (skip k 256 (nxTo g k n) : Nat)
/-- The way back from a table, as far as n. -/
def backTo (e : List Int) : Nat → List Int
  | 0 => zeros
  | n + 1 => (backTo e n).set (e.getD n 0).toNat n

/- The same, written out: behind the named rows the table (t0), given (g), taken (k); the next one (nx); the whole table (tb). E: Ebcdic, I: Ibm, A: Ascii. -/
def gL : List Bool := [true, false, false, false, false, false, false, false, false, true, true, false, false, true, false, false, false, false, false, false, false, false, false, false, false, false, false, false, false, false, false, false, true, true, true, true, true, true, true, true, true, true, true, true, true, true, true, true, true, true, true, true, true, true, true, true, true, true, true, true, true, true, true, true, true, true, true, true, true, true, true, true, true, true, true, true, true, true, true, true, true, true, true, true, true, true, true, true, true, true, true, true, true, true, true, true, true, true, true, true, true, true, true, true, true, true, true, true, true, true, true, true, true, true, true, true, true, true, true, true, true, true, true, true, true, true, true, false, false, false, false, false, false, false, false, false, false, false, false, false, false, false, false, false, false, false, false, false, false, false, false, false, false, false, false, false, false, false, false, false, false, false, false, false, false, false, false, false, false, false, false, false, false, false, false, false, false, false, false, false, false, false, false, false, false, false, false, false, false, false, false, false, false, false, false, false, false, false, false, false, false, false, false, false, false, false, false, false, false, false, false, false, false, false, false, false, false, false, false, false, false, false, false, false, false, false, false, false, false, false, false, false, false, false, false, false, false, false, false, false, false, false, false, false, false, false, false, false, false, false, false, false, false, false, false, false]
def t0E : List Int := [0, 0, 0, 0, 0, 0, 0, 0, 0, 5, 37, 0, 0, 13, 0, 0, 0, 0, 0, 0, 0, 0, 0, 0, 0, 0, 0, 0, 0, 0, 0, 0, 64, 90, 127, 123, 91, 108, 80, 125, 77, 93, 92, 78, 107, 96, 75, 97, 240, 241, 242, 243, 244, 245, 246, 247, 248, 249, 122, 94, 76, 126, 110, 111, 124, 193, 194, 195, 196, 197, 198, 199, 200, 201, 209, 210, 211, 212, 213, 214, 215, 216, 217, 226, 227, 228, 229, 230, 231, 232, 233, 173, 224, 189, 154, 109, 121, 129, 130, 131, 132, 133, 134, 135, 136, 137, 145, 146, 147, 148, 149, 150, 151, 152, 153, 162, 163, 164, 165, 166, 167, 168, 169, 192, 79, 208, 95, 0, 0, 0, 0, 0, 0, 0, 0, 0, 0, 0, 0, 0, 0, 0, 0, 0, 0, 0, 0, 0, 0, 0, 0, 0, 0, 0, 0, 0, 0, 0, 0, 0, 0, 0, 0, 0, 0, 0, 0, 0, 0, 0, 0, 0, 0, 0, 0, 0, 0, 0, 0, 0, 0, 0, 0, 0, 0, 0, 0, 0, 0, 0, 0, 0, 0, 0, 0, 0, 0, 0, 0, 0, 0, 0, 0, 0, 0, 0, 0, 0, 0, 0, 0, 0, 0, 0, 0, 0, 0, 0, 0, 0, 0, 0, 0, 0, 0, 0, 0, 0, 0, 0, 0, 0, 0, 0, 0, 0, 0, 0, 0, 0, 0, 0, 0, 0, 0, 0, 0, 0, 0, 0, 0, 0, 0, 0, 0, 0]
def kE : List Bool := [true, false, false, false, false, true, false, false, false, false, false, false, false, true, false, false, false, false, false, false, false, false, false, false, false, false, false, false, false, false, false, false, false, false, false, false, false, true, false, false, false, false, false, false, false, false, false, false, false, false, false, false, false, false, false, false, false, false, false, false, false, false, false, false, true, false, false, false, false, false, false, false, false, false, false, true, true, true, true, true, true, false, false, false, false, false, false, false, false, false, true, true, true, true, true, true, true, true, false, false, false, false, false, false, false, false, false, true, true, true, true, true, false, false, false, false, false, false, false, false, false, true, true, true, true, true, true, true, false, true, true, true, true, true, true, true, true, true, false, false, false, false, false, false, false, true, true, true, true, true, true, true, true, true, true, false, false, false, false, false, false, false, true, true, true, true, true, true, true, true, false, false, false, true, false, false, false, false, false, false, false, false, false, false, false, false, false, false, false, true, false, false, true, true, true, true, true, true, true, true, true, true, false, false, false, false, false, false, true, true, true, true, true, true, true, true, true, true, false, false, false, false, false, false, true, false, true, true, true, true, true, true, true, true, false, false, false, false, false, false, true, true, true, true, true, true, true, true, true, true, false, false, false, false, false, false]
def nxE : List Nat := [0, 0, 2, 3, 4, 5, 7, 8, 9, 10, 10, 10, 11, 12, 12, 13, 15, 16, 17, 18, 19, 20, 21, 22, 23, 24, 25, 26, 27, 28, 29, 30, 31, 31, 31, 31, 31, 31, 31, 31, 31, 31, 31, 31, 31, 31, 31, 31, 31, 31, 31, 31, 31, 31, 31, 31, 31, 31, 31, 31, 31, 31, 31, 31, 31, 31, 31, 31, 31, 31, 31, 31, 31, 31, 31, 31, 31, 31, 31, 31, 31, 31, 31, 31, 31, 31, 31, 31, 31, 31, 31, 31, 31, 31, 31, 31, 31, 31, 31, 31, 31, 31, 31, 31, 31, 31, 31, 31, 31, 31, 31, 31, 31, 31, 31, 31, 31, 31, 31, 31, 31, 31, 31, 31, 31, 31, 31, 31, 32, 33, 34, 35, 36, 37, 39, 40, 41, 42, 43, 44, 45, 46, 47, 48, 49, 50, 51, 52, 53, 54, 55, 56, 57, 58, 59, 60, 61, 62, 63, 64, 66, 67, 68, 69, 70, 71, 72, 73, 74, 75, 82, 83, 84, 85, 86, 87, 88, 89, 90, 99, 100, 101, 102, 103, 104, 105, 106, 107, 113, 114, 115, 116, 117, 118, 119, 120, 121, 129, 139, 140, 141, 142, 143, 144, 145, 156, 157, 158, 159, 160, 161, 162, 171, 172, 173, 175, 176, 177, 178, 179, 180, 181, 182, 183, 184, 185, 186, 187, 188, 189, 191, 192, 203, 204, 205, 206, 207, 208, 219, 220, 221, 222, 223, 224, 226, 235, 236, 237, 238, 239, 240, 251, 252, 253, 254, 255, 256]
def tbE : List Int := [0, 1, 2, 3, 4, 6, 7, 8, 9, 5, 37, 10, 11, 13, 12, 14, 15, 16, 17, 18, 19, 20, 21, 22, 23, 24, 25, 26, 27, 28, 29, 30, 64, 90, 127, 123, 91, 108, 80, 125, 77, 93, 92, 78, 107, 96, 75, 97, 240, 241, 242, 243, 244, 245, 246, 247, 248, 249, 122, 94, 76, 126, 110, 111, 124, 193, 194, 195, 196, 197, 198, 199, 200, 201, 209, 210, 211, 212, 213, 214, 215, 216, 217, 226, 227, 228, 229, 230, 231, 232, 233, 173, 224, 189, 154, 109, 121, 129, 130, 131, 132, 133, 134, 135, 136, 137, 145, 146, 147, 148, 149, 150, 151, 152, 153, 162, 163, 164, 165, 166, 167, 168, 169, 192, 79, 208, 95, 31, 32, 33, 34, 35, 36, 38, 39, 40, 41, 42, 43, 44, 45, 46, 47, 48, 49, 50, 51, 52, 53, 54, 55, 56, 57, 58, 59, 60, 61, 62, 63, 65, 66, 67, 68, 69, 70, 71, 72, 73, 74, 81, 82, 83, 84, 85, 86, 87, 88, 89, 98, 99, 100, 101, 102, 103, 104, 105, 106, 112, 113, 114, 115, 116, 117, 118, 119, 120, 128, 138, 139, 140, 141, 142, 143, 144, 155, 156, 157, 158, 159, 160, 161, 170, 171, 172, 174, 175, 176, 177, 178, 179, 180, 181, 182, 183, 184, 185, 186, 187, 188, 190, 191, 202, 203, 204, 205, 206, 207, 218, 219, 220, 221, 222, 223, 225, 234, 235, 236, 237, 238, 239, 250, 251, 252, 253, 254, 255]
def tbA : List Int := [0, 1, 2, 3, 4, 9, 5, 6, 7, 8, 11, 12, 14, 13, 15, 16, 17, 18, 19, 20, 21, 22, 23, 24, 25, 26, 27, 28, 29, 30, 31, 127, 128, 129, 130, 131, 132, 10, 133, 134, 135, 136, 137, 138, 139, 140, 141, 142, 143, 144, 145, 146, 147, 148, 149, 150, 151, 152, 153, 154, 155, 156, 157, 158, 32, 159, 160, 161, 162, 163, 164, 165, 166, 167, 168, 46, 60, 40, 43, 124, 38, 169, 170, 171, 172, 173, 174, 175, 176, 177, 33, 36, 42, 41, 59, 126, 45, 47, 178, 179, 180, 181, 182, 183, 184, 185, 186, 44, 37, 95, 62, 63, 187, 188, 189, 190, 191, 192, 193, 194, 195, 96, 58, 35, 64, 39, 61, 34, 196, 97, 98, 99, 100, 101, 102, 103, 104, 105, 197, 198, 199, 200, 201, 202, 203, 106, 107, 108, 109, 110, 111, 112, 113, 114, 94, 204, 205, 206, 207, 208, 209, 210, 115, 116, 117, 118, 119, 120, 121, 122, 211, 212, 213, 91, 214, 215, 216, 217, 218, 219, 220, 221, 222, 223, 224, 225, 226, 227, 228, 93, 229, 230, 123, 65, 66, 67, 68, 69, 70, 71, 72, 73, 231, 232, 233, 234, 235, 236, 125, 74, 75, 76, 77, 78, 79, 80, 81, 82, 237, 238, 239, 240, 241, 242, 92, 243, 83, 84, 85, 86, 87, 88, 89, 90, 244, 245, 246, 247, 248, 249, 48, 49, 50, 51, 52, 53, 54, 55, 56, 57, 250, 251, 252, 253, 254, 255]
def t0I : List Int := [0, 0, 0, 0, 0, 0, 0, 0, 0, 5, 37, 0, 0, 13, 0, 0, 0, 0, 0, 0, 0, 0, 0, 0, 0, 0, 0, 0, 0, 0, 0, 0, 64, 90, 127, 123, 91, 108, 80, 125, 77, 93, 92, 78, 107, 96, 75, 97, 240, 241, 242, 243, 244, 245, 246, 247, 248, 249, 122, 94, 76, 126, 110, 111, 124, 193, 194, 195, 196, 197, 198, 199, 200, 201, 209, 210, 211, 212, 213, 214, 215, 216, 217, 226, 227, 228, 229, 230, 231, 232, 233, 173, 224, 189, 95, 109, 121, 129, 130, 131, 132, 133, 134, 135, 136, 137, 145, 146, 147, 148, 149, 150, 151, 152, 153, 162, 163, 164, 165, 166, 167, 168, 169, 192, 79, 208, 161, 0, 0, 0, 0, 0, 0, 0, 0, 0, 0, 0, 0, 0, 0, 0, 0, 0, 0, 0, 0, 0, 0, 0, 0, 0, 0, 0, 0, 0, 0, 0, 0, 0, 0, 0, 0, 0, 0, 0, 0, 0, 0, 0, 0, 0, 0, 0, 0, 0, 0, 0, 0, 0, 0, 0, 0, 0, 0, 0, 0, 0, 0, 0, 0, 0, 0, 0, 0, 0, 0, 0, 0, 0, 0, 0, 0, 0, 0, 0, 0, 0, 0, 0, 0, 0, 0, 0, 0, 0, 0, 0, 0, 0, 0, 0, 0, 0, 0, 0, 0, 0, 0, 0, 0, 0, 0, 0, 0, 0, 0, 0, 0, 0, 0, 0, 0, 0, 0, 0, 0, 0, 0, 0, 0, 0, 0, 0, 0, 0]
def kI : List Bool := [true, false, false, false, false, true, false, false, false, false, false, false, false, true, false, false, false, false, false, false, false, false, false, false, false, false, false, false, false, false, false, false, false, false, false, false, false, true, false, false, false, false, false, false, false, false, false, false, false, false, false, false, false, false, false, false, false, false, false, false, false, false, false, false, true, false, false, false, false, false, false, false, false, false, false, true, true, true, true, true, true, false, false, false, false, false, false, false, false, false, true, true, true, true, true, true, true, true, false, false, false, false, false, false, false, false, false, true, true, true, true, true, false, false, false, false, false, false, false, false, false, true, true, true, true, true, true, true, false, true, true, true, true, true, true, true, true, true, false, false, false, false, false, false, false, true, true, true, true, true, true, true, true, true, false, false, false, false, false, false, false, true, true, true, true, true, true, true, true, true, false, false, false, true, false, false, false, false, false, false, false, false, false, false, false, false, false, false, false, true, false, false, true, true, true, true, true, true, true, true, true, true, false, false, false, false, false, false, true, true, true, true, true, true, true, true, true, true, false, false, false, false, false, false, true, false, true, true, true, true, true, true, true, true, false, false, false, false, false, false, true, true, true, true, true, true, true, true, true, true, false, false, false, false, false, false]
def nxI : List Nat := [0, 0, 2, 3, 4, 5, 7, 8, 9, 10, 10, 10, 11, 12, 12, 13, 15, 16, 17, 18, 19, 20, 21, 22, 23, 24, 25, 26, 27, 28, 29, 30, 31, 31, 31, 31, 31, 31, 31, 31, 31, 31, 31, 31, 31, 31, 31, 31, 31, 31, 31, 31, 31, 31, 31, 31, 31, 31, 31, 31, 31, 31, 31, 31, 31, 31, 31, 31, 31, 31, 31, 31, 31, 31, 31, 31, 31, 31, 31, 31, 31, 31, 31, 31, 31, 31, 31, 31, 31, 31, 31, 31, 31, 31, 31, 31, 31, 31, 31, 31, 31, 31, 31, 31, 31, 31, 31, 31, 31, 31, 31, 31, 31, 31, 31, 31, 31, 31, 31, 31, 31, 31, 31, 31, 31, 31, 31, 31, 32, 33, 34, 35, 36, 37, 39, 40, 41, 42, 43, 44, 45, 46, 47, 48, 49, 50, 51, 52, 53, 54, 55, 56, 57, 58, 59, 60, 61, 62, 63, 64, 66, 67, 68, 69, 70, 71, 72, 73, 74, 75, 82, 83, 84, 85, 86, 87, 88, 89, 90, 99, 100, 101, 102, 103, 104, 105, 106, 107, 113, 114, 115, 116, 117, 118, 119, 120, 121, 129, 139, 140, 141, 142, 143, 144, 145, 155, 156, 157, 158, 159, 160, 161, 171, 172, 173, 175, 176, 177, 178, 179, 180, 181, 182, 183, 184, 185, 186, 187, 188, 189, 191, 192, 203, 204, 205, 206, 207, 208, 219, 220, 221, 222, 223, 224, 226, 235, 236, 237, 238, 239, 240, 251, 252, 253, 254, 255, 256]
def tbI : List Int := [0, 1, 2, 3, 4, 6, 7, 8, 9, 5, 37, 10, 11, 13, 12, 14, 15, 16, 17, 18, 19, 20, 21, 22, 23, 24, 25, 26, 27, 28, 29, 30, 64, 90, 127, 123, 91, 108, 80, 125, 77, 93, 92, 78, 107, 96, 75, 97, 240, 241, 242, 243, 244, 245, 246, 247, 248, 249, 122, 94, 76, 126, 110, 111, 124, 193, 194, 195, 196, 197, 198, 199, 200, 201, 209, 210, 211, 212, 213, 214, 215, 216, 217, 226, 227, 228, 229, 230, 231, 232, 233, 173, 224, 189, 95, 109, 121, 129, 130, 131, 132, 133, 134, 135, 136, 137, 145, 146, 147, 148, 149, 150, 151, 152, 153, 162, 163, 164, 165, 166, 167, 168, 169, 192, 79, 208, 161, 31, 32, 33, 34, 35, 36, 38, 39, 40, 41, 42, 43, 44, 45, 46, 47, 48, 49, 50, 51, 52, 53, 54, 55, 56, 57, 58, 59, 60, 61, 62, 63, 65, 66, 67, 68, 69, 70, 71, 72, 73, 74, 81, 82, 83, 84, 85, 86, 87, 88, 89, 98, 99, 100, 101, 102, 103, 104, 105, 106, 112, 113, 114, 115, 116, 117, 118, 119, 120, 128, 138, 139, 140, 141, 142, 143, 144, 154, 155, 156, 157, 158, 159, 160, 170, 171, 172, 174, 175, 176, 177, 178, 179, 180, 181, 182, 183, 184, 185, 186, 187, 188, 190, 191, 202, 203, 204, 205, 206, 207, 218, 219, 220, 221, 222, 223, 225, 234, 235, 236, 237, 238, 239, 250, 251, 252, 253, 254, 255]

def t0L (i : Bool) : List Int := bif i then t0I else t0E
def kL (i : Bool) : List Bool := bif i then kI else kE
def nxL (i : Bool) : List Nat := bif i then nxI else nxE
def tbL (i : Bool) : List Int := bif i then tbI else tbE

theorem st_t (i : Bool) : (stI i 44).t = t0L i := by cases i <;> decide +kernel
theorem st_g (i : Bool) : (stI i 44).g = gL := by cases i <;> decide +kernel
theorem st_k (i : Bool) : (stI i 44).k = kL i := by cases i <;> decide +kernel
theorem nx_step (i : Bool) : ∀ n < 256, (nxL i).getD (n + 1) 0 = if gL.getD n false then (nxL i).getD n 0 else skip (kL i) 256 ((nxL i).getD n 0) + 1 := by cases i <;> decide +kernel
theorem nx_all (i : Bool) : ∀ n, n ≤ 256 → nxTo gL (kL i) n = (nxL i).getD n 0 := by
  intro n
  induction n with
  | zero => intro _; cases i <;> rfl
  | succ n ih => intro h; rw [nxTo, ih (by omega), nx_step i n (by omega)]
theorem nx_lt (i : Bool) : ∀ n < 256, gL.getD n false = false → skip (kL i) 256 ((nxL i).getD n 0) < 256 := by cases i <;> decide +kernel
def fillL (t : List Int) (g k : List Bool) (nx : List Nat) : Nat → List Int
  | 0 => t
  | n + 1 => if g.getD n false then fillL t g k nx n else (fillL t g k nx n).set n (skip k 256 (nx.getD n 0) : Nat)
theorem fill_nx (i : Bool) : ∀ n, n ≤ 256 → fillTo (t0L i) gL (kL i) n = fillL (t0L i) gL (kL i) (nxL i) n := by
  intro n
  induction n with
  | zero => intro _; rfl
  | succ n ih => intro h; rw [fillTo, fillL, ih (by omega), nx_all i n (by omega)]
theorem fill_all (i : Bool) : fillTo (t0L i) gL (kL i) 256 = tbL i := by rw [fill_nx i 256 (by omega)]; cases i <;> decide +kernel
theorem back_all : backTo tbE 256 = tbA := by decide +kernel
theorem len_ids : ids.length = 256 := by decide +kernel
theorem len_lower : lower.length = 256 := by decide +kernel
theorem len_upper : upper.length = 256 := by decide +kernel
theorem len_tb (i : Bool) : (tbL i).length = 256 := by cases i <;> decide +kernel
theorem len_asc : tbA.length = 256 := by decide +kernel
theorem asc_ebc : ∀ k < 256, tbA.getD (tbE.getD k 0).toNat 0 = (k : Nat) := by decide +kernel
theorem ebc_asc : ∀ k < 256, tbE.getD (tbA.getD k 0).toNat 0 = (k : Nat) := by decide +kernel

end Go.Proofs.Ytghihmmapignmaa
