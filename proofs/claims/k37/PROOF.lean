import PyProof.Rows.All
import Wide.All
import OpenK.AllK
import Wide.FinOn
import Lean
import PyProof.EqAt
import PyProof.EqKinds
import PyProof.TupleCall
import PySem.Challenge.RW_sumcraft_k37_rows_moved_scaled_ready
set_option Elab.async false
set_option linter.all false
set_option maxRecDepth 100000
set_option maxHeartbeats 4000000
namespace My
open PySem PySem.Spec PyProof.Rows PySem.W
def top (i : Nat) : Stmt := PySem.Challenge.pw_sumcraft_k37_rows_moved_scaled_ready.main.body.getD i (.Pass ⟨0, 0, 0, 0⟩)
def inCls (s : Stmt) (j : Nat) : Stmt := match s with
  | .ClassDef _ _ _ b _ _ _ _ _ _ _ => b.getD j (.Pass ⟨0, 0, 0, 0⟩)
  | _ => .Pass ⟨0, 0, 0, 0⟩
abbrev s_trimmed : Stmt := top 9
abbrev s_poly_times : Stmt := top 10
abbrev s_shifted : Stmt := top 11
abbrev s_poly_value : Stmt := top 12
abbrev s_divisor : Stmt := top 17
abbrev s_ratio : Stmt := top 18
abbrev s_multiplied : Stmt := top 19
abbrev s_clear : Stmt := top 22
abbrev s_reach : Stmt := top 23
abbrev s_order_of : Stmt := top 25
abbrev s_need_of : Stmt := top 26
abbrev s_weighted : Stmt := top 27
abbrev s_parted : Stmt := top 28
abbrev s_total : Stmt := top 29
abbrev s_rule_sum : Stmt := top 30
abbrev s_keeps : Stmt := top 31
abbrev s_check_first : Stmt := top 32
abbrev s_next_value : Stmt := top 33
abbrev s_row_ahead : Stmt := top 40
abbrev s_row_scaled : Stmt := top 41
abbrev s_poly_row : Stmt := top 42
abbrev s_power_row : Stmt := top 43
abbrev s__law_cell_at : Stmt := top 45
abbrev s__law_lowest : Stmt := top 46
abbrev s__law_number : Stmt := top 47
abbrev s__law_value : Stmt := top 48
abbrev s__law_moved : Stmt := top 49
abbrev s__law_reach : Stmt := top 50
abbrev s__law_rule : Stmt := top 51
abbrev s__law_next : Stmt := top 52
abbrev s__law_values : Stmt := top 53
abbrev s__law_is : Stmt := top 54
abbrev s__law_row : Stmt := top 55
abbrev s__law_ready : Stmt := top 56
abbrev s_law : Stmt := top 57
abbrev s_Row___init__ : Stmt := inCls (top 36) 0
abbrev s_Row_at : Stmt := inCls (top 36) 1
abbrev s_Row_told : Stmt := inCls (top 36) 2
def kE (P : Params) (x : String) (n : Nat) (v : Value) : DictEntry := ⟨PyData.keyHash P (Str.ofString x), .str (Str.ofString x) n, v⟩
def kM (x q : Str) (s : Stmt) (m : Str) (k c : Nat) : Obj := match s with
  | .FunctionDef _ a b _ _ _ sc _ _ _ => ⟨.type "function", none, .func (fnOf x q a b sc .none .none .none (.str m k) none (.ref c) .none), #[]⟩
  | _ => ⟨.none, none, .plain, #[]⟩
def kN (x q : Str) (s : Stmt) : Obj := match s with
  | .FunctionDef _ a b _ _ _ sc _ _ _ => ⟨.none, none, .func { name := x, qualname := q, params := a, body := .stmts b, scope := sc, globals := 0, closure := [], defaults := .none, kwdefaults := .none }, #[]⟩
  | _ => ⟨.none, none, .plain, #[]⟩
def oT (x : Array Value) : Obj := { cls := .type "tuple", data := Data.seq x }
def oF (x : Array Value) : Obj := { cls := .none, data := Data.fields x }
def oK (x : Array Value) : Obj := { cls := .type "code", data := Data.fields x }
def oB (x : Array Value) : Obj := { cls := .type "builtin_function_or_method", data := Data.fields x }
def cp (n : Nat) : Value := .str "/claim/cut.py" n
def ob11 : Obj := oT #[]
def ob12 : Obj := oF #[]
def ob13 : Obj := oK #[.str "<module>" 182, .str "<module>" 183, cp 184, .int 1 0, .int 0 0, .int 0 0, .int 0 0, .int 0 0, .ref 11, .bool false, .int 181 0, .ref 12, .none, .none, .none, .none, .int 185 0, .int 1 0, cp 186]
def ob14 : Obj := { cls := .type "frame", slots := #[some (.ref 13), some (.ref 3), some (.ref 3), none, some (.str "__main__" 164), none, some (.ref 0)] }
def ob3 (P : Params) : Obj := { cls := .type "dict", data := Data.dict #[kE P "__name__" 165 (.str "sumcraft.errors" 187), kE P "__doc__" 166 (.none), kE P "__package__" 167 (.none), kE P "__loader__" 168 (.builtin "__main__.__loader__#opaque"), kE P "__spec__" 169 (.none), kE P "__annotations__" 170 (.ref 6), kE P "__builtins__" 171 (.ref 4), kE P "__file__" 173 (cp 172), kE P "__cached__" 174 (.none), kE P "SumError" 206 (.ref 24), kE P "NoNumber" 222 (.ref 37), kE P "NoRule" 238 (.ref 49), kE P "TooFew" 254 (.ref 61), kE P "NotKept" 279 (.ref 80), kE P "TooGreat" 295 (.ref 92)] 15 }
def ob12' : Obj := oF #[.int 2 0, .int 0 0, .ref 20, .int 4 0, .int 0 0, .ref 33, .int 6 0, .int 0 0, .ref 45, .int 8 0, .int 0 0, .ref 57, .int 10 0, .int 0 0, .ref 69, .int 15 0, .int 0 0, .ref 88]
def ob15 : Obj := oT #[.type "ValueError"]
def ob16 : Obj := oB #[.builtin "type.__prepare__", .type "type"]
def ob17 (P : Params) : Obj := { cls := .type "dict", data := Data.dict #[kE P "__module__" 196 (.str "sumcraft.errors" 187), kE P "__qualname__" 198 (.str "SumError" 197), kE P "__firstlineno__" 200 (.int 2 199), kE P "__static_attributes__" 201 (.ref 22)] 4 }
def ob18 : Obj := oT #[]
def ob19 : Obj := oF #[]
def ob20 : Obj := oK #[.str "SumError" 191, .str "SumError" 192, cp 193, .int 2 0, .int 0 0, .int 0 0, .int 0 0, .int 0 0, .ref 18, .bool false, .int 181 0, .ref 19, .none, .none, .none, .none, .int 194 0, .int 2 0, cp 195]
def ob21 : Obj := { cls := .type "frame", slots := #[some (.ref 20), some (.ref 3), some (.ref 17), none, some (.str "sumcraft.errors" 187), none, some (.ref 0)] }
def ob22 : Obj := oT #[]
def ob23 (P : Params) : Obj := { cls := .type "dict", data := Data.dict #[kE P "__module__" 196 (.str "sumcraft.errors" 187), kE P "__firstlineno__" 200 (.int 2 199), kE P "__static_attributes__" 201 (.ref 22), kE P "__weakref__" 203 (.ref 25), kE P "__doc__" 204 (.none)] 3 }
def ob24 : Obj := { cls := .type "type", data := Data.cls { name := "SumError", bases := [.type "ValueError"], mro := [.ref 24, .type "ValueError", .type "Exception", .type "BaseException", .type "object"], ns := 23, qualname := "SumError", subclasses := [.ref 37, .ref 49, .ref 61, .ref 80, .ref 92] }, slots := #[some (.ref 15), none, some (.str "SumError" 189), some (.str "SumError" 197), some (.builtin "ValueError.__new__"), some (.bool true)] }
def ob25 : Obj := { cls := .type "getset_descriptor", data := Data.fields #[.str "__weakref__" 202, .ref 24, .builtin "ExceptionGroup.__weakref__", .none] }
def ob26 : Obj := { cls := .type "super", data := Data.fields #[.ref 24, .ref 24, .ref 24] }
def ob27 : Obj := oB #[.builtin "object.__init_subclass__", .ref 24]
def ob28 : Obj := oT #[.ref 24]
def ob29 : Obj := oB #[.builtin "type.__prepare__", .type "type"]
def ob30 (P : Params) : Obj := { cls := .type "dict", data := Data.dict #[kE P "__module__" 214 (.str "sumcraft.errors" 187), kE P "__qualname__" 216 (.str "NoNumber" 215), kE P "__firstlineno__" 218 (.int 4 217), kE P "__static_attributes__" 219 (.ref 35)] 4 }
def ob31 : Obj := oT #[]
def ob32 : Obj := oF #[]
def ob33 : Obj := oK #[.str "NoNumber" 209, .str "NoNumber" 210, cp 211, .int 4 0, .int 0 0, .int 0 0, .int 0 0, .int 0 0, .ref 31, .bool false, .int 181 0, .ref 32, .none, .none, .none, .none, .int 212 0, .int 4 0, cp 213]
def ob34 : Obj := { cls := .type "frame", slots := #[some (.ref 33), some (.ref 3), some (.ref 30), none, some (.str "sumcraft.errors" 187), none, some (.ref 0)] }
def ob35 : Obj := oT #[]
def ob36 (P : Params) : Obj := { cls := .type "dict", data := Data.dict #[kE P "__module__" 214 (.str "sumcraft.errors" 187), kE P "__firstlineno__" 218 (.int 4 217), kE P "__static_attributes__" 219 (.ref 35), kE P "__doc__" 220 (.none)] 2 }
def ob37 : Obj := { cls := .type "type", data := Data.cls { name := "NoNumber", bases := [.ref 24], mro := [.ref 37, .ref 24, .type "ValueError", .type "Exception", .type "BaseException", .type "object"], ns := 36, qualname := "NoNumber" }, slots := #[some (.ref 28), none, some (.str "NoNumber" 207), some (.str "NoNumber" 215), some (.builtin "ValueError.__new__"), some (.bool true)] }
def ob38 : Obj := { cls := .type "super", data := Data.fields #[.ref 37, .ref 37, .ref 37] }
def ob39 : Obj := oB #[.builtin "object.__init_subclass__", .ref 37]
def ob40 : Obj := oT #[.ref 24]
def ob41 : Obj := oB #[.builtin "type.__prepare__", .type "type"]
def ob42 (P : Params) : Obj := { cls := .type "dict", data := Data.dict #[kE P "__module__" 230 (.str "sumcraft.errors" 187), kE P "__qualname__" 232 (.str "NoRule" 231), kE P "__firstlineno__" 234 (.int 6 233), kE P "__static_attributes__" 235 (.ref 47)] 4 }
def ob43 : Obj := oT #[]
def ob44 : Obj := oF #[]
def ob45 : Obj := oK #[.str "NoRule" 225, .str "NoRule" 226, cp 227, .int 6 0, .int 0 0, .int 0 0, .int 0 0, .int 0 0, .ref 43, .bool false, .int 181 0, .ref 44, .none, .none, .none, .none, .int 228 0, .int 6 0, cp 229]
def ob46 : Obj := { cls := .type "frame", slots := #[some (.ref 45), some (.ref 3), some (.ref 42), none, some (.str "sumcraft.errors" 187), none, some (.ref 0)] }
def ob47 : Obj := oT #[]
def ob48 (P : Params) : Obj := { cls := .type "dict", data := Data.dict #[kE P "__module__" 230 (.str "sumcraft.errors" 187), kE P "__firstlineno__" 234 (.int 6 233), kE P "__static_attributes__" 235 (.ref 47), kE P "__doc__" 236 (.none)] 2 }
def ob49 : Obj := { cls := .type "type", data := Data.cls { name := "NoRule", bases := [.ref 24], mro := [.ref 49, .ref 24, .type "ValueError", .type "Exception", .type "BaseException", .type "object"], ns := 48, qualname := "NoRule" }, slots := #[some (.ref 40), none, some (.str "NoRule" 223), some (.str "NoRule" 231), some (.builtin "ValueError.__new__"), some (.bool true)] }
def ob50 : Obj := { cls := .type "super", data := Data.fields #[.ref 49, .ref 49, .ref 49] }
def ob51 : Obj := oB #[.builtin "object.__init_subclass__", .ref 49]
def ob52 : Obj := oT #[.ref 24]
def ob53 : Obj := oB #[.builtin "type.__prepare__", .type "type"]
def ob54 (P : Params) : Obj := { cls := .type "dict", data := Data.dict #[kE P "__module__" 246 (.str "sumcraft.errors" 187), kE P "__qualname__" 248 (.str "TooFew" 247), kE P "__firstlineno__" 250 (.int 8 249), kE P "__static_attributes__" 251 (.ref 59)] 4 }
def ob55 : Obj := oT #[]
def ob56 : Obj := oF #[]
def ob57 : Obj := oK #[.str "TooFew" 241, .str "TooFew" 242, cp 243, .int 8 0, .int 0 0, .int 0 0, .int 0 0, .int 0 0, .ref 55, .bool false, .int 181 0, .ref 56, .none, .none, .none, .none, .int 244 0, .int 8 0, cp 245]
def ob58 : Obj := { cls := .type "frame", slots := #[some (.ref 57), some (.ref 3), some (.ref 54), none, some (.str "sumcraft.errors" 187), none, some (.ref 0)] }
def ob59 : Obj := oT #[]
def ob60 (P : Params) : Obj := { cls := .type "dict", data := Data.dict #[kE P "__module__" 246 (.str "sumcraft.errors" 187), kE P "__firstlineno__" 250 (.int 8 249), kE P "__static_attributes__" 251 (.ref 59), kE P "__doc__" 252 (.none)] 2 }
def ob61 : Obj := { cls := .type "type", data := Data.cls { name := "TooFew", bases := [.ref 24], mro := [.ref 61, .ref 24, .type "ValueError", .type "Exception", .type "BaseException", .type "object"], ns := 60, qualname := "TooFew" }, slots := #[some (.ref 52), none, some (.str "TooFew" 239), some (.str "TooFew" 247), some (.builtin "ValueError.__new__"), some (.bool true)] }
def ob62 : Obj := { cls := .type "super", data := Data.fields #[.ref 61, .ref 61, .ref 61] }
def ob63 : Obj := oB #[.builtin "object.__init_subclass__", .ref 61]
def ob64 : Obj := oT #[.ref 24]
def ob65 : Obj := oB #[.builtin "type.__prepare__", .type "type"]
def ob66 (P : Params) : Obj := { cls := .type "dict", data := Data.dict #[kE P "__module__" 262 (.str "sumcraft.errors" 187), kE P "__qualname__" 264 (.str "NotKept" 263), kE P "__firstlineno__" 266 (.int 10 265), kE P "__init__" 274 (.ref 77), kE P "__static_attributes__" 276 (.ref 78)] 5 }
def ob67 : Obj := oT #[]
def ob68 : Obj := oF #[.int 12 0, .int 4 0, .ref 76]
def ob69 : Obj := oK #[.str "NotKept" 257, .str "NotKept" 258, cp 259, .int 10 0, .int 0 0, .int 0 0, .int 0 0, .int 0 0, .ref 67, .bool false, .int 181 0, .ref 68, .none, .none, .none, .none, .int 260 0, .int 10 0, cp 261]
def ob70 : Obj := { cls := .type "frame", slots := #[some (.ref 69), some (.ref 3), some (.ref 66), none, some (.str "sumcraft.errors" 187), none, some (.ref 0)] }
def ob71 : Obj := oT #[]
def ob72 : Obj := oF #[]
def ob73 : Obj := oT #[.str "self" 270, .str "place" 271]
def ob74 : Obj := oT #[]
def ob75 : Obj := kN "__init__" "NotKept.__init__" (inCls (top 5) 0)
def ob76 : Obj := oK #[.str "__init__" 267, .str "NotKept.__init__" 268, cp 269, .int 12 0, .int 2 0, .int 0 0, .int 0 0, .int 3 0, .ref 71, .bool true, .int 181 0, .ref 72, .none, .ref 73, .ref 74, .ref 75, .int 272 0, .int 12 0, cp 273]
def ob77 : Obj := kM "__init__" "NotKept.__init__" (inCls (top 5) 0) "sumcraft.errors" 187 76
def ob78 : Obj := oT #[.str "place" 275]
def ob79 (P : Params) : Obj := { cls := .type "dict", data := Data.dict #[kE P "__module__" 262 (.str "sumcraft.errors" 187), kE P "__firstlineno__" 266 (.int 10 265), kE P "__init__" 274 (.ref 77), kE P "__static_attributes__" 276 (.ref 78), kE P "__doc__" 277 (.none)] 2 }
def ob80 : Obj := { cls := .type "type", data := Data.cls { name := "NotKept", bases := [.ref 24], mro := [.ref 80, .ref 24, .type "ValueError", .type "Exception", .type "BaseException", .type "object"], ns := 79, qualname := "NotKept" }, slots := #[some (.ref 64), none, some (.str "NotKept" 255), some (.str "NotKept" 263), some (.builtin "ValueError.__new__"), some (.bool true)] }
def ob81 : Obj := { cls := .type "super", data := Data.fields #[.ref 80, .ref 80, .ref 80] }
def ob82 : Obj := oB #[.builtin "object.__init_subclass__", .ref 80]
def ob83 : Obj := oT #[.ref 24]
def ob84 : Obj := oB #[.builtin "type.__prepare__", .type "type"]
def ob85 (P : Params) : Obj := { cls := .type "dict", data := Data.dict #[kE P "__module__" 287 (.str "sumcraft.errors" 187), kE P "__qualname__" 289 (.str "TooGreat" 288), kE P "__firstlineno__" 291 (.int 15 290), kE P "__static_attributes__" 292 (.ref 90)] 4 }
def ob86 : Obj := oT #[]
def ob87 : Obj := oF #[]
def ob88 : Obj := oK #[.str "TooGreat" 282, .str "TooGreat" 283, cp 284, .int 15 0, .int 0 0, .int 0 0, .int 0 0, .int 0 0, .ref 86, .bool false, .int 181 0, .ref 87, .none, .none, .none, .none, .int 285 0, .int 15 0, cp 286]
def ob89 : Obj := { cls := .type "frame", slots := #[some (.ref 88), some (.ref 3), some (.ref 85), none, some (.str "sumcraft.errors" 187), none, some (.ref 0)] }
def ob90 : Obj := oT #[]
def ob91 (P : Params) : Obj := { cls := .type "dict", data := Data.dict #[kE P "__module__" 287 (.str "sumcraft.errors" 187), kE P "__firstlineno__" 291 (.int 15 290), kE P "__static_attributes__" 292 (.ref 90), kE P "__doc__" 293 (.none)] 2 }
def ob92 : Obj := { cls := .type "type", data := Data.cls { name := "TooGreat", bases := [.ref 24], mro := [.ref 92, .ref 24, .type "ValueError", .type "Exception", .type "BaseException", .type "object"], ns := 91, qualname := "TooGreat" }, slots := #[some (.ref 83), none, some (.str "TooGreat" 280), some (.str "TooGreat" 288), some (.builtin "ValueError.__new__"), some (.bool true)] }
def ob93 : Obj := { cls := .type "super", data := Data.fields #[.ref 92, .ref 92, .ref 92] }
def ob94 : Obj := oB #[.builtin "object.__init_subclass__", .ref 92]
def ob3' (P : Params) : Obj := { cls := .type "dict", data := Data.dict #[kE P "__name__" 165 (.str "sumcraft.made" 552), kE P "__doc__" 166 (.none), kE P "__package__" 167 (.none), kE P "__loader__" 168 (.builtin "__main__.__loader__#opaque"), kE P "__spec__" 169 (.none), kE P "__annotations__" 170 (.ref 6), kE P "__builtins__" 171 (.ref 4), kE P "__file__" 173 (cp 172), kE P "__cached__" 174 (.none), kE P "SumError" 206 (.ref 24), kE P "NoNumber" 222 (.ref 37), kE P "NoRule" 238 (.ref 49), kE P "TooFew" 254 (.ref 61), kE P "NotKept" 279 (.ref 80), kE P "TooGreat" 295 (.ref 92), kE P "NoPlace" 311 (.ref 104), kE P "trimmed" 321 (.ref 113), kE P "poly_times" 334 (.ref 120), kE P "shifted" 345 (.ref 127), kE P "poly_value" 355 (.ref 134), kE P "LONG" 359 (.int 4000 358), kE P "WINDOW" 361 (.int 300 360), kE P "shortened" 378 (.ref 141), kE P "divisor" 390 (.ref 148), kE P "ratio" 399 (.ref 155), kE P "multiplied" 407 (.ref 162), kE P "FARTHEST" 411 (.int 60 410), kE P "clear" 420 (.ref 169), kE P "reach" 428 (.ref 176), kE P "order_of" 438 (.ref 183), kE P "need_of" 446 (.ref 190), kE P "weighted" 455 (.ref 197), kE P "parted" 464 (.ref 204), kE P "total" 470 (.ref 209), kE P "rule_sum" 476 (.ref 214), kE P "keeps" 486 (.ref 221), kE P "check_first" 496 (.ref 228), kE P "next_value" 505 (.ref 235), kE P "FARTHEST_PLACE" 509 (.int 400 508), kE P "Row" 551 (.ref 262), kE P "FARTHEST_AHEAD" 555 (.int 60 554), kE P "MOST_NUMBERS" 557 (.int 5 556), kE P "row_ahead" 563 (.ref 271)] 43 }
def ob12'' : Obj := oF #[.int 2 0, .int 0 0, .ref 20, .int 4 0, .int 0 0, .ref 33, .int 6 0, .int 0 0, .ref 45, .int 8 0, .int 0 0, .ref 57, .int 10 0, .int 0 0, .ref 69, .int 15 0, .int 0 0, .ref 88, .int 17 0, .int 0 0, .ref 100, .int 20 0, .int 0 0, .ref 112, .int 25 0, .int 0 0, .ref 119, .int 33 0, .int 0 0, .ref 126, .int 39 0, .int 0 0, .ref 133, .int 47 0, .int 0 0, .ref 140, .int 63 0, .int 0 0, .ref 147, .int 75 0, .int 0 0, .ref 154, .int 82 0, .int 0 0, .ref 161, .int 86 0, .int 0 0, .ref 168, .int 91 0, .int 0 0, .ref 175, .int 99 0, .int 0 0, .ref 182, .int 106 0, .int 0 0, .ref 189, .int 109 0, .int 0 0, .ref 196, .int 112 0, .int 0 0, .ref 203, .int 117 0, .int 0 0, .ref 208, .int 125 0, .int 0 0, .ref 213, .int 128 0, .int 0 0, .ref 220, .int 133 0, .int 0 0, .ref 227, .int 140 0, .int 0 0, .ref 234, .int 145 0, .int 0 0, .ref 241, .int 164 0, .int 0 0, .ref 270]
def ob24' : Obj := { cls := .type "type", data := Data.cls { name := "SumError", bases := [.type "ValueError"], mro := [.ref 24, .type "ValueError", .type "Exception", .type "BaseException", .type "object"], ns := 23, qualname := "SumError", subclasses := [.ref 37, .ref 49, .ref 61, .ref 80, .ref 92, .ref 104] }, slots := #[some (.ref 15), none, some (.str "SumError" 189), some (.str "SumError" 197), some (.builtin "ValueError.__new__"), some (.bool true)] }
def ob95 : Obj := oT #[.ref 24]
def ob96 : Obj := oB #[.builtin "type.__prepare__", .type "type"]
def ob97 (P : Params) : Obj := { cls := .type "dict", data := Data.dict #[kE P "__module__" 303 (.str "sumcraft.errors" 187), kE P "__qualname__" 305 (.str "NoPlace" 304), kE P "__firstlineno__" 307 (.int 17 306), kE P "__static_attributes__" 308 (.ref 102)] 4 }
def ob98 : Obj := oT #[]
def ob99 : Obj := oF #[]
def ob100 : Obj := oK #[.str "NoPlace" 298, .str "NoPlace" 299, cp 300, .int 17 0, .int 0 0, .int 0 0, .int 0 0, .int 0 0, .ref 98, .bool false, .int 181 0, .ref 99, .none, .none, .none, .none, .int 301 0, .int 17 0, cp 302]
def ob101 : Obj := { cls := .type "frame", slots := #[some (.ref 100), some (.ref 3), some (.ref 97), none, some (.str "sumcraft.errors" 187), none, some (.ref 0)] }
def ob102 : Obj := oT #[]
def ob103 (P : Params) : Obj := { cls := .type "dict", data := Data.dict #[kE P "__module__" 303 (.str "sumcraft.errors" 187), kE P "__firstlineno__" 307 (.int 17 306), kE P "__static_attributes__" 308 (.ref 102), kE P "__doc__" 309 (.none)] 2 }
def ob104 : Obj := { cls := .type "type", data := Data.cls { name := "NoPlace", bases := [.ref 24], mro := [.ref 104, .ref 24, .type "ValueError", .type "Exception", .type "BaseException", .type "object"], ns := 103, qualname := "NoPlace" }, slots := #[some (.ref 95), none, some (.str "NoPlace" 296), some (.str "NoPlace" 304), some (.builtin "ValueError.__new__"), some (.bool true)] }
def ob105 : Obj := { cls := .type "super", data := Data.fields #[.ref 104, .ref 104, .ref 104] }
def ob106 : Obj := oB #[.builtin "object.__init_subclass__", .ref 104]
def ob107 : Obj := oT #[]
def ob108 : Obj := oF #[]
def ob109 : Obj := oT #[.str "numbers" 317, .str "size" 318]
def ob110 : Obj := oT #[]
def ob111 : Obj := kN "trimmed" "trimmed" (top 9)
def ob112 : Obj := oK #[.str "trimmed" 314, .str "trimmed" 315, cp 316, .int 20 0, .int 1 0, .int 0 0, .int 0 0, .int 3 0, .ref 107, .bool true, .int 181 0, .ref 108, .none, .ref 109, .ref 110, .ref 111, .int 319 0, .int 20 0, cp 320]
def ob113 : Obj := kM "trimmed" "trimmed" (top 9) "sumcraft.polys" 312 112
def ob114 : Obj := oT #[]
def ob115 : Obj := oF #[]
def ob116 : Obj := oT #[.str "one" 325, .str "other" 326, .str "answer" 327, .str "low" 328, .str "number" 329, .str "place" 330, .str "factor" 331]
def ob117 : Obj := oT #[]
def ob118 : Obj := kN "poly_times" "poly_times" (top 10)
def ob119 : Obj := oK #[.str "poly_times" 322, .str "poly_times" 323, cp 324, .int 25 0, .int 2 0, .int 0 0, .int 0 0, .int 3 0, .ref 114, .bool true, .int 181 0, .ref 115, .none, .ref 116, .ref 117, .ref 118, .int 332 0, .int 25 0, cp 333]
def ob120 : Obj := kM "poly_times" "poly_times" (top 10) "sumcraft.polys" 312 119
def ob121 : Obj := oT #[]
def ob122 : Obj := oF #[]
def ob123 : Obj := oT #[.str "poly" 338, .str "by" 339, .str "answer" 340, .str "low" 341, .str "place" 342]
def ob124 : Obj := oT #[]
def ob125 : Obj := kN "shifted" "shifted" (top 11)
def ob126 : Obj := oK #[.str "shifted" 335, .str "shifted" 336, cp 337, .int 33 0, .int 2 0, .int 0 0, .int 0 0, .int 3 0, .ref 121, .bool true, .int 181 0, .ref 122, .none, .ref 123, .ref 124, .ref 125, .int 343 0, .int 33 0, cp 344]
def ob127 : Obj := kM "shifted" "shifted" (top 11) "sumcraft.polys" 312 126
def ob128 : Obj := oT #[]
def ob129 : Obj := oF #[]
def ob130 : Obj := oT #[.str "poly" 349, .str "n" 350, .str "answer" 351, .str "number" 352]
def ob131 : Obj := oT #[]
def ob132 : Obj := kN "poly_value" "poly_value" (top 12)
def ob133 : Obj := oK #[.str "poly_value" 346, .str "poly_value" 347, cp 348, .int 39 0, .int 2 0, .int 0 0, .int 0 0, .int 3 0, .ref 128, .bool true, .int 181 0, .ref 129, .none, .ref 130, .ref 131, .ref 132, .int 353 0, .int 39 0, cp 354]
def ob134 : Obj := kM "poly_value" "poly_value" (top 12) "sumcraft.polys" 312 133
def ob135 : Obj := oT #[]
def ob136 : Obj := oF #[]
def ob137 : Obj := oT #[.str "big" 365, .str "small" 366, .str "cut" 367, .str "ahead" 368, .str "behind" 369, .str "half" 370, .str "upper" 371, .str "lower" 372, .str "times" 373, .str "rest" 374, .str "further" 375]
def ob138 : Obj := oT #[]
def ob139 : Obj := kN "shortened" "shortened" (top 16)
def ob140 : Obj := oK #[.str "shortened" 362, .str "shortened" 363, cp 364, .int 47 0, .int 2 0, .int 0 0, .int 0 0, .int 3 0, .ref 135, .bool true, .int 181 0, .ref 136, .none, .ref 137, .ref 138, .ref 139, .int 376 0, .int 47 0, cp 377]
def ob141 : Obj := kM "shortened" "shortened" (top 16) "sumcraft.ratios" 356 140
def ob142 : Obj := oT #[]
def ob143 : Obj := oF #[]
def ob144 : Obj := oT #[.str "one" 382, .str "other" 383, .str "big" 384, .str "small" 385, .str "pair" 386, .str "rest" 387]
def ob145 : Obj := oT #[]
def ob146 : Obj := kN "divisor" "divisor" (top 17)
def ob147 : Obj := oK #[.str "divisor" 379, .str "divisor" 380, cp 381, .int 63 0, .int 2 0, .int 0 0, .int 0 0, .int 3 0, .ref 142, .bool true, .int 181 0, .ref 143, .none, .ref 144, .ref 145, .ref 146, .int 388 0, .int 63 0, cp 389]
def ob148 : Obj := kM "divisor" "divisor" (top 17) "sumcraft.ratios" 356 147
def ob149 : Obj := oT #[]
def ob150 : Obj := oF #[]
def ob151 : Obj := oT #[.str "top" 394, .str "bottom" 395, .str "shared" 396]
def ob152 : Obj := oT #[]
def ob153 : Obj := kN "ratio" "ratio" (top 18)
def ob154 : Obj := oK #[.str "ratio" 391, .str "ratio" 392, cp 393, .int 75 0, .int 2 0, .int 0 0, .int 0 0, .int 3 0, .ref 149, .bool true, .int 181 0, .ref 150, .none, .ref 151, .ref 152, .ref 153, .int 397 0, .int 75 0, cp 398]
def ob155 : Obj := kM "ratio" "ratio" (top 18) "sumcraft.ratios" 356 154
def ob156 : Obj := oT #[]
def ob157 : Obj := oF #[]
def ob158 : Obj := oT #[.str "one" 403, .str "other" 404]
def ob159 : Obj := oT #[]
def ob160 : Obj := kN "multiplied" "multiplied" (top 19)
def ob161 : Obj := oK #[.str "multiplied" 400, .str "multiplied" 401, cp 402, .int 82 0, .int 2 0, .int 0 0, .int 0 0, .int 3 0, .ref 156, .bool true, .int 181 0, .ref 157, .none, .ref 158, .ref 159, .ref 160, .int 405 0, .int 82 0, cp 406]
def ob162 : Obj := kM "multiplied" "multiplied" (top 19) "sumcraft.ratios" 356 161
def ob163 : Obj := oT #[]
def ob164 : Obj := oF #[]
def ob165 : Obj := oT #[.str "poly" 415, .str "m" 416, .str "moved" 417]
def ob166 : Obj := oT #[]
def ob167 : Obj := kN "clear" "clear" (top 22)
def ob168 : Obj := oK #[.str "clear" 412, .str "clear" 413, cp 414, .int 86 0, .int 2 0, .int 0 0, .int 0 0, .int 3 0, .ref 163, .bool true, .int 181 0, .ref 164, .none, .ref 165, .ref 166, .ref 167, .int 418 0, .int 86 0, cp 419]
def ob169 : Obj := kM "clear" "clear" (top 22) "sumcraft.reaches" 408 168
def ob170 : Obj := oT #[]
def ob171 : Obj := oF #[]
def ob172 : Obj := oT #[.str "poly" 424, .str "m" 425]
def ob173 : Obj := oT #[]
def ob174 : Obj := kN "reach" "reach" (top 23)
def ob175 : Obj := oK #[.str "reach" 421, .str "reach" 422, cp 423, .int 91 0, .int 1 0, .int 0 0, .int 0 0, .int 3 0, .ref 170, .bool true, .int 181 0, .ref 171, .none, .ref 172, .ref 173, .ref 174, .int 426 0, .int 91 0, cp 427]
def ob176 : Obj := kM "reach" "reach" (top 23) "sumcraft.reaches" 408 175
def ob177 : Obj := oT #[]
def ob178 : Obj := oF #[]
def ob179 : Obj := oT #[.str "rule" 434, .str "poly" 435]
def ob180 : Obj := oT #[]
def ob181 : Obj := kN "order_of" "order_of" (top 25)
def ob182 : Obj := oK #[.str "order_of" 431, .str "order_of" 432, cp 433, .int 99 0, .int 1 0, .int 0 0, .int 0 0, .int 3 0, .ref 177, .bool true, .int 181 0, .ref 178, .none, .ref 179, .ref 180, .ref 181, .int 436 0, .int 99 0, cp 437]
def ob183 : Obj := kM "order_of" "order_of" (top 25) "sumcraft.rules" 429 182
def ob184 : Obj := oT #[]
def ob185 : Obj := oF #[]
def ob186 : Obj := oT #[.str "rule" 442, .str "order" 443]
def ob187 : Obj := oT #[]
def ob188 : Obj := kN "need_of" "need_of" (top 26)
def ob189 : Obj := oK #[.str "need_of" 439, .str "need_of" 440, cp 441, .int 106 0, .int 1 0, .int 0 0, .int 0 0, .int 3 0, .ref 184, .bool true, .int 181 0, .ref 185, .none, .ref 186, .ref 187, .ref 188, .int 444 0, .int 106 0, cp 445]
def ob190 : Obj := kM "need_of" "need_of" (top 26) "sumcraft.rules" 429 189
def ob191 : Obj := oT #[]
def ob192 : Obj := oF #[]
def ob193 : Obj := oT #[.str "weight" 450, .str "fraction" 451, .str "shared" 452]
def ob194 : Obj := oT #[]
def ob195 : Obj := kN "weighted" "weighted" (top 27)
def ob196 : Obj := oK #[.str "weighted" 447, .str "weighted" 448, cp 449, .int 109 0, .int 2 0, .int 0 0, .int 0 0, .int 3 0, .ref 191, .bool true, .int 181 0, .ref 192, .none, .ref 193, .ref 194, .ref 195, .int 453 0, .int 109 0, cp 454]
def ob197 : Obj := kM "weighted" "weighted" (top 27) "sumcraft.rules" 429 196
def ob198 : Obj := oT #[]
def ob199 : Obj := oF #[]
def ob200 : Obj := oT #[.str "fraction" 459, .str "number" 460, .str "shared" 461]
def ob201 : Obj := oT #[]
def ob202 : Obj := kN "parted" "parted" (top 28)
def ob203 : Obj := oK #[.str "parted" 456, .str "parted" 457, cp 458, .int 112 0, .int 2 0, .int 0 0, .int 0 0, .int 3 0, .ref 198, .bool true, .int 181 0, .ref 199, .none, .ref 200, .ref 201, .ref 202, .int 462 0, .int 112 0, cp 463]
def ob204 : Obj := kM "parted" "parted" (top 28) "sumcraft.rules" 429 203
def ob205 : Obj := oT #[]
def ob206 : Obj := oF #[]
def ob207 : Obj := kN "total" "total" (top 29)
def ob208 : Obj := oK #[.str "total" 465, .str "total" 466, cp 467, .int 117 0, .int 1 0, .int 0 0, .int 0 0, .int 3 0, .ref 205, .bool true, .int 181 0, .ref 206, .none, .none, .none, .ref 207, .int 468 0, .int 117 0, cp 469]
def ob209 : Obj := kM "total" "total" (top 29) "sumcraft.rules" 429 208
def ob210 : Obj := oT #[]
def ob211 : Obj := oF #[]
def ob212 : Obj := kN "rule_sum" "rule_sum" (top 30)
def ob213 : Obj := oK #[.str "rule_sum" 471, .str "rule_sum" 472, cp 473, .int 125 0, .int 3 0, .int 0 0, .int 0 0, .int 3 0, .ref 210, .bool true, .int 181 0, .ref 211, .none, .none, .none, .ref 212, .int 474 0, .int 125 0, cp 475]
def ob214 : Obj := kM "rule_sum" "rule_sum" (top 30) "sumcraft.rules" 429 213
def ob215 : Obj := oT #[]
def ob216 : Obj := oF #[]
def ob217 : Obj := oT #[.str "rule" 480, .str "values" 481, .str "n" 482, .str "order" 483]
def ob218 : Obj := oT #[]
def ob219 : Obj := kN "keeps" "keeps" (top 31)
def ob220 : Obj := oK #[.str "keeps" 477, .str "keeps" 478, cp 479, .int 128 0, .int 3 0, .int 0 0, .int 0 0, .int 3 0, .ref 215, .bool true, .int 181 0, .ref 216, .none, .ref 217, .ref 218, .ref 219, .int 484 0, .int 128 0, cp 485]
def ob221 : Obj := kM "keeps" "keeps" (top 31) "sumcraft.rules" 429 220
def ob222 : Obj := oT #[]
def ob223 : Obj := oF #[]
def ob224 : Obj := oT #[.str "rule" 490, .str "first" 491, .str "need" 492, .str "n" 493]
def ob225 : Obj := oT #[]
def ob226 : Obj := kN "check_first" "check_first" (top 32)
def ob227 : Obj := oK #[.str "check_first" 487, .str "check_first" 488, cp 489, .int 133 0, .int 2 0, .int 0 0, .int 0 0, .int 3 0, .ref 222, .bool true, .int 181 0, .ref 223, .none, .ref 224, .ref 225, .ref 226, .int 494 0, .int 133 0, cp 495]
def ob228 : Obj := kM "check_first" "check_first" (top 32) "sumcraft.rules" 429 227
def ob229 : Obj := oT #[]
def ob230 : Obj := oF #[]
def ob231 : Obj := oT #[.str "rule" 500, .str "values" 501, .str "n" 502]
def ob232 : Obj := oT #[]
def ob233 : Obj := kN "next_value" "next_value" (top 33)
def ob234 : Obj := oK #[.str "next_value" 497, .str "next_value" 498, cp 499, .int 140 0, .int 2 0, .int 0 0, .int 0 0, .int 3 0, .ref 229, .bool true, .int 181 0, .ref 230, .none, .ref 231, .ref 232, .ref 233, .int 503 0, .int 140 0, cp 504]
def ob235 : Obj := kM "next_value" "next_value" (top 33) "sumcraft.rules" 429 234
def ob236 : Obj := oT #[]
def ob237 : Obj := oB #[.builtin "type.__prepare__", .type "type"]
def ob238 (P : Params) : Obj := { cls := .type "dict", data := Data.dict #[kE P "__module__" 517 (.str "sumcraft.rows" 506), kE P "__qualname__" 519 (.str "Row" 518), kE P "__firstlineno__" 521 (.int 145 520), kE P "__init__" 527 (.ref 247), kE P "at" 535 (.ref 254), kE P "told" 541 (.ref 259), kE P "__static_attributes__" 544 (.ref 260)] 7 }
def ob239 : Obj := oT #[]
def ob240 : Obj := oF #[.int 147 0, .int 4 0, .ref 246, .int 152 0, .int 4 0, .ref 253, .int 159 0, .int 4 0, .ref 258]
def ob241 : Obj := oK #[.str "Row" 512, .str "Row" 513, cp 514, .int 145 0, .int 0 0, .int 0 0, .int 0 0, .int 0 0, .ref 239, .bool false, .int 181 0, .ref 240, .none, .none, .none, .none, .int 515 0, .int 145 0, cp 516]
def ob242 : Obj := { cls := .type "frame", slots := #[some (.ref 241), some (.ref 3), some (.ref 238), none, some (.str "sumcraft.rows" 506), none, some (.ref 0)] }
def ob243 : Obj := oT #[]
def ob244 : Obj := oF #[]
def ob245 : Obj := kN "__init__" "Row.__init__" (inCls (top 36) 0)
def ob246 : Obj := oK #[.str "__init__" 522, .str "Row.__init__" 523, cp 524, .int 147 0, .int 3 0, .int 0 0, .int 0 0, .int 3 0, .ref 243, .bool true, .int 181 0, .ref 244, .none, .none, .none, .ref 245, .int 525 0, .int 147 0, cp 526]
def ob247 : Obj := kM "__init__" "Row.__init__" (inCls (top 36) 0) "sumcraft.rows" 506 246
def ob248 : Obj := oT #[]
def ob249 : Obj := oF #[]
def ob250 : Obj := oT #[.str "self" 531, .str "n" 532]
def ob251 : Obj := oT #[]
def ob252 : Obj := kN "at" "Row.at" (inCls (top 36) 1)
def ob253 : Obj := oK #[.str "at" 528, .str "Row.at" 529, cp 530, .int 152 0, .int 2 0, .int 0 0, .int 0 0, .int 3 0, .ref 248, .bool true, .int 181 0, .ref 249, .none, .ref 250, .ref 251, .ref 252, .int 533 0, .int 152 0, cp 534]
def ob254 : Obj := kM "at" "Row.at" (inCls (top 36) 1) "sumcraft.rows" 506 253
def ob255 : Obj := oT #[]
def ob256 : Obj := oF #[]
def ob257 : Obj := kN "told" "Row.told" (inCls (top 36) 2)
def ob258 : Obj := oK #[.str "told" 536, .str "Row.told" 537, cp 538, .int 159 0, .int 1 0, .int 0 0, .int 0 0, .int 3 0, .ref 255, .bool true, .int 181 0, .ref 256, .none, .none, .none, .ref 257, .int 539 0, .int 159 0, cp 540]
def ob259 : Obj := kM "told" "Row.told" (inCls (top 36) 2) "sumcraft.rows" 506 258
def ob260 : Obj := oT #[.str "known" 542, .str "rule" 543]
def ob261 (P : Params) : Obj := { cls := .type "dict", data := Data.dict #[kE P "__module__" 517 (.str "sumcraft.rows" 506), kE P "__firstlineno__" 521 (.int 145 520), kE P "__init__" 527 (.ref 247), kE P "at" 535 (.ref 254), kE P "told" 541 (.ref 259), kE P "__static_attributes__" 544 (.ref 260), kE P "__dict__" 546 (.ref 263), kE P "__weakref__" 548 (.ref 264), kE P "__doc__" 549 (.none)] 4 }
def ob262 : Obj := { cls := .type "type", data := Data.cls { name := "Row", bases := [.type "object"], mro := [.ref 262, .type "object"], ns := 261, qualname := "Row" }, slots := #[none, none, some (.str "Row" 510), some (.str "Row" 518), some (.builtin "object.__new__"), some (.bool true)] }
def ob263 : Obj := { cls := .type "getset_descriptor", data := Data.fields #[.str "__dict__" 545, .ref 262, .builtin "function.__dict__", .builtin "function.__dict__#set"] }
def ob264 : Obj := { cls := .type "getset_descriptor", data := Data.fields #[.str "__weakref__" 547, .ref 262, .builtin "ExceptionGroup.__weakref__", .none] }
def ob265 : Obj := { cls := .type "super", data := Data.fields #[.ref 262, .ref 262, .ref 262] }
def ob266 : Obj := oB #[.builtin "object.__init_subclass__", .ref 262]
def ob267 : Obj := oT #[]
def ob268 : Obj := oF #[]
def ob269 : Obj := kN "row_ahead" "row_ahead" (top 40)
def ob270 : Obj := oK #[.str "row_ahead" 558, .str "row_ahead" 559, cp 560, .int 164 0, .int 2 0, .int 0 0, .int 0 0, .int 3 0, .ref 267, .bool true, .int 181 0, .ref 268, .none, .none, .none, .ref 269, .int 561 0, .int 164 0, cp 562]
def ob271 : Obj := kM "row_ahead" "row_ahead" (top 40) "sumcraft.made" 552 270
def ob3'' (P : Params) : Obj := { cls := .type "dict", data := Data.dict #[kE P "__name__" 165 (.str "law_sumcraft_k37_rows_moved_scaled_ready" 583), kE P "__doc__" 166 (.none), kE P "__package__" 167 (.none), kE P "__loader__" 168 (.builtin "__main__.__loader__#opaque"), kE P "__spec__" 169 (.none), kE P "__annotations__" 170 (.ref 6), kE P "__builtins__" 171 (.ref 4), kE P "__file__" 173 (cp 172), kE P "__cached__" 174 (.none), kE P "SumError" 206 (.ref 24), kE P "NoNumber" 222 (.ref 37), kE P "NoRule" 238 (.ref 49), kE P "TooFew" 254 (.ref 61), kE P "NotKept" 279 (.ref 80), kE P "TooGreat" 295 (.ref 92), kE P "NoPlace" 311 (.ref 104), kE P "trimmed" 321 (.ref 113), kE P "poly_times" 334 (.ref 120), kE P "shifted" 345 (.ref 127), kE P "poly_value" 355 (.ref 134), kE P "LONG" 359 (.int 4000 358), kE P "WINDOW" 361 (.int 300 360), kE P "shortened" 378 (.ref 141), kE P "divisor" 390 (.ref 148), kE P "ratio" 399 (.ref 155), kE P "multiplied" 407 (.ref 162), kE P "FARTHEST" 411 (.int 60 410), kE P "clear" 420 (.ref 169), kE P "reach" 428 (.ref 176), kE P "order_of" 438 (.ref 183), kE P "need_of" 446 (.ref 190), kE P "weighted" 455 (.ref 197), kE P "parted" 464 (.ref 204), kE P "total" 470 (.ref 209), kE P "rule_sum" 476 (.ref 214), kE P "keeps" 486 (.ref 221), kE P "check_first" 496 (.ref 228), kE P "next_value" 505 (.ref 235), kE P "FARTHEST_PLACE" 509 (.int 400 508), kE P "Row" 551 (.ref 262), kE P "FARTHEST_AHEAD" 555 (.int 60 554), kE P "MOST_NUMBERS" 557 (.int 5 556), kE P "row_ahead" 563 (.ref 271), kE P "row_scaled" 569 (.ref 276), kE P "poly_row" 575 (.ref 281), kE P "power_row" 582 (.ref 288), kE P "_law_cell_at" 592 (.ref 295), kE P "_law_lowest" 603 (.ref 302), kE P "_law_number" 610 (.ref 309), kE P "_law_value" 620 (.ref 316), kE P "_law_moved" 631 (.ref 323), kE P "_law_reach" 640 (.ref 330), kE P "_law_rule" 656 (.ref 337), kE P "_law_next" 667 (.ref 344), kE P "_law_values" 677 (.ref 351), kE P "_law_is" 687 (.ref 358), kE P "_law_row" 698 (.ref 365), kE P "_law_ready" 704 (.ref 370), kE P "law" 710 (.ref 375)] 59 }
def ob12''' : Obj := oF #[.int 2 0, .int 0 0, .ref 20, .int 4 0, .int 0 0, .ref 33, .int 6 0, .int 0 0, .ref 45, .int 8 0, .int 0 0, .ref 57, .int 10 0, .int 0 0, .ref 69, .int 15 0, .int 0 0, .ref 88, .int 17 0, .int 0 0, .ref 100, .int 20 0, .int 0 0, .ref 112, .int 25 0, .int 0 0, .ref 119, .int 33 0, .int 0 0, .ref 126, .int 39 0, .int 0 0, .ref 133, .int 47 0, .int 0 0, .ref 140, .int 63 0, .int 0 0, .ref 147, .int 75 0, .int 0 0, .ref 154, .int 82 0, .int 0 0, .ref 161, .int 86 0, .int 0 0, .ref 168, .int 91 0, .int 0 0, .ref 175, .int 99 0, .int 0 0, .ref 182, .int 106 0, .int 0 0, .ref 189, .int 109 0, .int 0 0, .ref 196, .int 112 0, .int 0 0, .ref 203, .int 117 0, .int 0 0, .ref 208, .int 125 0, .int 0 0, .ref 213, .int 128 0, .int 0 0, .ref 220, .int 133 0, .int 0 0, .ref 227, .int 140 0, .int 0 0, .ref 234, .int 145 0, .int 0 0, .ref 241, .int 164 0, .int 0 0, .ref 270, .int 169 0, .int 0 0, .ref 275, .int 172 0, .int 0 0, .ref 280, .int 179 0, .int 0 0, .ref 287, .int 182 0, .int 0 0, .ref 294, .int 186 0, .int 0 0, .ref 301, .int 196 0, .int 0 0, .ref 308, .int 200 0, .int 0 0, .ref 315, .int 205 0, .int 0 0, .ref 322, .int 211 0, .int 0 0, .ref 329, .int 217 0, .int 0 0, .ref 336, .int 237 0, .int 0 0, .ref 343, .int 245 0, .int 0 0, .ref 350, .int 250 0, .int 0 0, .ref 357, .int 261 0, .int 0 0, .ref 364, .int 268 0, .int 0 0, .ref 369, .int 285 0, .int 0 0, .ref 374]
def ob272 : Obj := oT #[]
def ob273 : Obj := oF #[]
def ob274 : Obj := kN "row_scaled" "row_scaled" (top 41)
def ob275 : Obj := oK #[.str "row_scaled" 564, .str "row_scaled" 565, cp 566, .int 169 0, .int 2 0, .int 0 0, .int 0 0, .int 3 0, .ref 272, .bool true, .int 181 0, .ref 273, .none, .none, .none, .ref 274, .int 567 0, .int 169 0, cp 568]
def ob276 : Obj := kM "row_scaled" "row_scaled" (top 41) "sumcraft.made" 552 275
def ob277 : Obj := oT #[]
def ob278 : Obj := oF #[]
def ob279 : Obj := kN "poly_row" "poly_row" (top 42)
def ob280 : Obj := oK #[.str "poly_row" 570, .str "poly_row" 571, cp 572, .int 172 0, .int 1 0, .int 0 0, .int 0 0, .int 3 0, .ref 277, .bool true, .int 181 0, .ref 278, .none, .none, .none, .ref 279, .int 573 0, .int 172 0, cp 574]
def ob281 : Obj := kM "poly_row" "poly_row" (top 42) "sumcraft.made" 552 280
def ob282 : Obj := oT #[]
def ob283 : Obj := oF #[]
def ob284 : Obj := oT #[.str "fraction" 579]
def ob285 : Obj := oT #[]
def ob286 : Obj := kN "power_row" "power_row" (top 43)
def ob287 : Obj := oK #[.str "power_row" 576, .str "power_row" 577, cp 578, .int 179 0, .int 1 0, .int 0 0, .int 0 0, .int 3 0, .ref 282, .bool true, .int 181 0, .ref 283, .none, .ref 284, .ref 285, .ref 286, .int 580 0, .int 179 0, cp 581]
def ob288 : Obj := kM "power_row" "power_row" (top 43) "sumcraft.made" 552 287
def ob289 : Obj := oT #[]
def ob290 : Obj := oF #[]
def ob291 : Obj := oT #[.str "_law_script" 588, .str "_law_k" 589]
def ob292 : Obj := oT #[]
def ob293 : Obj := kN "_law_cell_at" "_law_cell_at" (top 45)
def ob294 : Obj := oK #[.str "_law_cell_at" 585, .str "_law_cell_at" 586, cp 587, .int 182 0, .int 2 0, .int 0 0, .int 0 0, .int 3 0, .ref 289, .bool true, .int 181 0, .ref 290, .none, .ref 291, .ref 292, .ref 293, .int 590 0, .int 182 0, cp 591]
def ob295 : Obj := kM "_law_cell_at" "_law_cell_at" (top 45) "law_sumcraft_k37_rows_moved_scaled_ready" 583 294
def ob296 : Obj := oT #[]
def ob297 : Obj := oF #[]
def ob298 : Obj := oT #[.str "_law_top" 596, .str "_law_bottom" 597, .str "_law_one" 598, .str "_law_other" 599, .str "_law_rest" 600]
def ob299 : Obj := oT #[]
def ob300 : Obj := kN "_law_lowest" "_law_lowest" (top 46)
def ob301 : Obj := oK #[.str "_law_lowest" 593, .str "_law_lowest" 594, cp 595, .int 186 0, .int 2 0, .int 0 0, .int 0 0, .int 3 0, .ref 296, .bool true, .int 181 0, .ref 297, .none, .ref 298, .ref 299, .ref 300, .int 601 0, .int 186 0, cp 602]
def ob302 : Obj := kM "_law_lowest" "_law_lowest" (top 46) "law_sumcraft_k37_rows_moved_scaled_ready" 583 301
def ob303 : Obj := oT #[]
def ob304 : Obj := oF #[]
def ob305 : Obj := oT #[.str "_law_cell" 607]
def ob306 : Obj := oT #[]
def ob307 : Obj := kN "_law_number" "_law_number" (top 47)
def ob308 : Obj := oK #[.str "_law_number" 604, .str "_law_number" 605, cp 606, .int 196 0, .int 1 0, .int 0 0, .int 0 0, .int 3 0, .ref 303, .bool true, .int 181 0, .ref 304, .none, .ref 305, .ref 306, .ref 307, .int 608 0, .int 196 0, cp 609]
def ob309 : Obj := kM "_law_number" "_law_number" (top 47) "law_sumcraft_k37_rows_moved_scaled_ready" 583 308
def ob310 : Obj := oT #[]
def ob311 : Obj := oF #[]
def ob312 : Obj := oT #[.str "_law_poly" 614, .str "_law_n" 615, .str "_law_found" 616, .str "_law_number_here" 617]
def ob313 : Obj := oT #[]
def ob314 : Obj := kN "_law_value" "_law_value" (top 48)
def ob315 : Obj := oK #[.str "_law_value" 611, .str "_law_value" 612, cp 613, .int 200 0, .int 2 0, .int 0 0, .int 0 0, .int 3 0, .ref 310, .bool true, .int 181 0, .ref 311, .none, .ref 312, .ref 313, .ref 314, .int 618 0, .int 200 0, cp 619]
def ob316 : Obj := kM "_law_value" "_law_value" (top 48) "law_sumcraft_k37_rows_moved_scaled_ready" 583 315
def ob317 : Obj := oT #[]
def ob318 : Obj := oF #[]
def ob319 : Obj := oT #[.str "_law_poly" 624, .str "_law_by" 625, .str "_law_found" 626, .str "_law_low" 627, .str "_law_at" 628]
def ob320 : Obj := oT #[]
def ob321 : Obj := kN "_law_moved" "_law_moved" (top 49)
def ob322 : Obj := oK #[.str "_law_moved" 621, .str "_law_moved" 622, cp 623, .int 205 0, .int 2 0, .int 0 0, .int 0 0, .int 3 0, .ref 317, .bool true, .int 181 0, .ref 318, .none, .ref 319, .ref 320, .ref 321, .int 629 0, .int 205 0, cp 630]
def ob323 : Obj := kM "_law_moved" "_law_moved" (top 49) "law_sumcraft_k37_rows_moved_scaled_ready" 583 322
def ob324 : Obj := oT #[]
def ob325 : Obj := oF #[]
def ob326 : Obj := oT #[.str "_law_poly" 635, .str "_law_m" 636, .str "_law_moved_here" 637]
def ob327 : Obj := oT #[]
def ob328 : Obj := kN "_law_reach" "_law_reach" (top 50)
def ob329 : Obj := oK #[.str "_law_reach" 632, .str "_law_reach" 633, cp 634, .int 211 0, .int 1 0, .int 0 0, .int 0 0, .int 3 0, .ref 324, .bool true, .int 181 0, .ref 325, .none, .ref 326, .ref 327, .ref 328, .int 638 0, .int 211 0, cp 639]
def ob330 : Obj := kM "_law_reach" "_law_reach" (top 50) "law_sumcraft_k37_rows_moved_scaled_ready" 583 329
def ob331 : Obj := oT #[]
def ob332 : Obj := oF #[]
def ob333 : Obj := oT #[.str "_law_script" 644, .str "_law_cell" 645, .str "_law_scale" 646, .str "_law_first" 647, .str "_law_last" 648, .str "_law_m" 649, .str "_law_found" 650, .str "_law_poly" 651, .str "_law_more" 652, .str "_law_k" 653]
def ob334 : Obj := oT #[]
def ob335 : Obj := kN "_law_rule" "_law_rule" (top 51)
def ob336 : Obj := oK #[.str "_law_rule" 641, .str "_law_rule" 642, cp 643, .int 217 0, .int 1 0, .int 0 0, .int 0 0, .int 3 0, .ref 331, .bool true, .int 181 0, .ref 332, .none, .ref 333, .ref 334, .ref 335, .int 654 0, .int 217 0, cp 655]
def ob337 : Obj := kM "_law_rule" "_law_rule" (top 51) "law_sumcraft_k37_rows_moved_scaled_ready" 583 336
def ob338 : Obj := oT #[]
def ob339 : Obj := oF #[]
def ob340 : Obj := oT #[.str "_law_rule_here" 660, .str "_law_values_here" 661, .str "_law_free" 662, .str "_law_n" 663, .str "_law_last" 664]
def ob341 : Obj := oT #[]
def ob342 : Obj := kN "_law_next" "_law_next" (top 52)
def ob343 : Obj := oK #[.str "_law_next" 657, .str "_law_next" 658, cp 659, .int 237 0, .int 3 0, .int 0 0, .int 0 0, .int 3 0, .ref 338, .bool true, .int 181 0, .ref 339, .none, .ref 340, .ref 341, .ref 342, .int 665 0, .int 237 0, cp 666]
def ob344 : Obj := kM "_law_next" "_law_next" (top 52) "law_sumcraft_k37_rows_moved_scaled_ready" 583 343
def ob345 : Obj := oT #[]
def ob346 : Obj := oF #[]
def ob347 : Obj := oT #[.str "_law_script" 671, .str "_law_rule_here" 672, .str "_law_many" 673, .str "_law_found" 674]
def ob348 : Obj := oT #[]
def ob349 : Obj := kN "_law_values" "_law_values" (top 53)
def ob350 : Obj := oK #[.str "_law_values" 668, .str "_law_values" 669, cp 670, .int 245 0, .int 3 0, .int 0 0, .int 0 0, .int 3 0, .ref 345, .bool true, .int 181 0, .ref 346, .none, .ref 347, .ref 348, .ref 349, .int 675 0, .int 245 0, cp 676]
def ob351 : Obj := kM "_law_values" "_law_values" (top 53) "law_sumcraft_k37_rows_moved_scaled_ready" 583 350
def ob352 : Obj := oT #[]
def ob353 : Obj := oF #[]
def ob354 : Obj := oT #[.str "_law_found" 681, .str "_law_due" 682, .str "_law_one" 683, .str "_law_right" 684]
def ob355 : Obj := oT #[]
def ob356 : Obj := kN "_law_is" "_law_is" (top 54)
def ob357 : Obj := oK #[.str "_law_is" 678, .str "_law_is" 679, cp 680, .int 250 0, .int 2 0, .int 0 0, .int 0 0, .int 3 0, .ref 352, .bool true, .int 181 0, .ref 353, .none, .ref 354, .ref 355, .ref 356, .int 685 0, .int 250 0, cp 686]
def ob358 : Obj := kM "_law_is" "_law_is" (top 54) "law_sumcraft_k37_rows_moved_scaled_ready" 583 357
def ob359 : Obj := oT #[]
def ob360 : Obj := oF #[]
def ob361 : Obj := oT #[.str "_law_row_here" 691, .str "_law_rule_here" 692, .str "_law_first" 693, .str "_law_due" 694, .str "_law_n" 695]
def ob362 : Obj := oT #[]
def ob363 : Obj := kN "_law_row" "_law_row" (top 55)
def ob364 : Obj := oK #[.str "_law_row" 688, .str "_law_row" 689, cp 690, .int 261 0, .int 4 0, .int 0 0, .int 0 0, .int 3 0, .ref 359, .bool true, .int 181 0, .ref 360, .none, .ref 361, .ref 362, .ref 363, .int 696 0, .int 261 0, cp 697]
def ob365 : Obj := kM "_law_row" "_law_row" (top 55) "law_sumcraft_k37_rows_moved_scaled_ready" 583 364
def ob366 : Obj := oT #[]
def ob367 : Obj := oF #[]
def ob368 : Obj := kN "_law_ready" "_law_ready" (top 56)
def ob369 : Obj := oK #[.str "_law_ready" 699, .str "_law_ready" 700, cp 701, .int 268 0, .int 2 0, .int 0 0, .int 0 0, .int 3 0, .ref 366, .bool true, .int 181 0, .ref 367, .none, .none, .none, .ref 368, .int 702 0, .int 268 0, cp 703]
def ob370 : Obj := kM "_law_ready" "_law_ready" (top 56) "law_sumcraft_k37_rows_moved_scaled_ready" 583 369
def ob371 : Obj := oT #[]
def ob372 : Obj := oF #[]
def ob373 : Obj := kN "law" "law" (top 57)
def ob374 : Obj := oK #[.str "law" 705, .str "law" 706, cp 707, .int 285 0, .int 1 0, .int 0 0, .int 0 0, .int 3 0, .ref 371, .bool true, .int 181 0, .ref 372, .none, .none, .none, .ref 373, .int 708 0, .int 285 0, cp 709]
def ob375 : Obj := kM "law" "law" (top 57) "law_sumcraft_k37_rows_moved_scaled_ready" 583 374
def env0 : Env := { scope := PySem.Challenge.pw_sumcraft_k37_rows_moved_scaled_ready.main.scope, locals := mainNs, globals := mainNs, cells := [], code := .ref 13, frame := some 14 }
def cd0 : Code := .body (behindTheImports PySem.Challenge.pw_sumcraft_k37_rows_moved_scaled_ready) env0
def fr0 : List Frame := [topFrame { line := 0, col := 0, endLine := 0, endCol := 0 }]
noncomputable def hp1 (P : Params) : Heap := ⟨⟨[boot_o_0 P, boot_o_1 P, boot_o_2 P, boot_o_3 P, boot_o_4 P, boot_o_5 P, boot_o_6 P, boot_o_7 P, boot_o_8 P, boot_o_9 P, boot_o_10 P, ob11, ob12, ob13, ob14]⟩, {}⟩
noncomputable def hp3 (P : Params) : Heap := ⟨⟨[boot_o_0 P, boot_o_1 P, boot_o_2 P, ob3 P, boot_o_4 P, boot_o_5 P, boot_o_6 P, boot_o_7 P, boot_o_8 P, boot_o_9 P, boot_o_10 P, ob11, ob12', ob13, ob14, ob15, ob16, ob17 P, ob18, ob19, ob20, ob21, ob22, ob23 P, ob24, ob25, ob26, ob27, ob28, ob29, ob30 P, ob31, ob32, ob33, ob34, ob35, ob36 P, ob37, ob38, ob39, ob40, ob41, ob42 P, ob43, ob44, ob45, ob46, ob47, ob48 P, ob49, ob50, ob51, ob52, ob53, ob54 P, ob55, ob56, ob57, ob58, ob59, ob60 P, ob61, ob62, ob63, ob64, ob65, ob66 P, ob67, ob68, ob69, ob70, ob71, ob72, ob73, ob74, ob75, ob76, ob77, ob78, ob79 P, ob80, ob81, ob82, ob83, ob84, ob85 P, ob86, ob87, ob88, ob89, ob90, ob91 P, ob92, ob93, ob94]⟩, {}⟩
noncomputable def hp4 (P : Params) : Heap := ⟨⟨[boot_o_0 P, boot_o_1 P, boot_o_2 P, ob3' P, boot_o_4 P, boot_o_5 P, boot_o_6 P, boot_o_7 P, boot_o_8 P, boot_o_9 P, boot_o_10 P, ob11, ob12'', ob13, ob14, ob15, ob16, ob17 P, ob18, ob19, ob20, ob21, ob22, ob23 P, ob24', ob25, ob26, ob27, ob28, ob29, ob30 P, ob31, ob32, ob33, ob34, ob35, ob36 P, ob37, ob38, ob39, ob40, ob41, ob42 P, ob43, ob44, ob45, ob46, ob47, ob48 P, ob49, ob50, ob51, ob52, ob53, ob54 P, ob55, ob56, ob57, ob58, ob59, ob60 P, ob61, ob62, ob63, ob64, ob65, ob66 P, ob67, ob68, ob69, ob70, ob71, ob72, ob73, ob74, ob75, ob76, ob77, ob78, ob79 P, ob80, ob81, ob82, ob83, ob84, ob85 P, ob86, ob87, ob88, ob89, ob90, ob91 P, ob92, ob93, ob94, ob95, ob96, ob97 P, ob98, ob99, ob100, ob101, ob102, ob103 P, ob104, ob105, ob106, ob107, ob108, ob109, ob110, ob111, ob112, ob113, ob114, ob115, ob116, ob117, ob118, ob119, ob120, ob121, ob122, ob123, ob124, ob125, ob126, ob127, ob128, ob129, ob130, ob131, ob132, ob133, ob134, ob135, ob136, ob137, ob138, ob139, ob140, ob141, ob142, ob143, ob144, ob145, ob146, ob147, ob148, ob149, ob150, ob151, ob152, ob153, ob154, ob155, ob156, ob157, ob158, ob159, ob160, ob161, ob162, ob163, ob164, ob165, ob166, ob167, ob168, ob169, ob170, ob171, ob172, ob173, ob174, ob175, ob176, ob177, ob178, ob179, ob180, ob181, ob182, ob183, ob184, ob185, ob186, ob187, ob188, ob189, ob190, ob191, ob192, ob193, ob194, ob195, ob196, ob197, ob198, ob199, ob200, ob201, ob202, ob203, ob204, ob205, ob206, ob207, ob208, ob209, ob210, ob211, ob212, ob213, ob214, ob215, ob216, ob217, ob218, ob219, ob220, ob221, ob222, ob223, ob224, ob225, ob226, ob227, ob228, ob229, ob230, ob231, ob232, ob233, ob234, ob235, ob236, ob237, ob238 P, ob239, ob240, ob241, ob242, ob243, ob244, ob245, ob246, ob247, ob248, ob249, ob250, ob251, ob252, ob253, ob254, ob255, ob256, ob257, ob258, ob259, ob260, ob261 P, ob262, ob263, ob264, ob265, ob266, ob267, ob268, ob269, ob270, ob271]⟩, {}⟩
noncomputable def hp5 (P : Params) : Heap := ⟨⟨[boot_o_0 P, boot_o_1 P, boot_o_2 P, ob3'' P, boot_o_4 P, boot_o_5 P, boot_o_6 P, boot_o_7 P, boot_o_8 P, boot_o_9 P, boot_o_10 P, ob11, ob12''', ob13, ob14, ob15, ob16, ob17 P, ob18, ob19, ob20, ob21, ob22, ob23 P, ob24', ob25, ob26, ob27, ob28, ob29, ob30 P, ob31, ob32, ob33, ob34, ob35, ob36 P, ob37, ob38, ob39, ob40, ob41, ob42 P, ob43, ob44, ob45, ob46, ob47, ob48 P, ob49, ob50, ob51, ob52, ob53, ob54 P, ob55, ob56, ob57, ob58, ob59, ob60 P, ob61, ob62, ob63, ob64, ob65, ob66 P, ob67, ob68, ob69, ob70, ob71, ob72, ob73, ob74, ob75, ob76, ob77, ob78, ob79 P, ob80, ob81, ob82, ob83, ob84, ob85 P, ob86, ob87, ob88, ob89, ob90, ob91 P, ob92, ob93, ob94, ob95, ob96, ob97 P, ob98, ob99, ob100, ob101, ob102, ob103 P, ob104, ob105, ob106, ob107, ob108, ob109, ob110, ob111, ob112, ob113, ob114, ob115, ob116, ob117, ob118, ob119, ob120, ob121, ob122, ob123, ob124, ob125, ob126, ob127, ob128, ob129, ob130, ob131, ob132, ob133, ob134, ob135, ob136, ob137, ob138, ob139, ob140, ob141, ob142, ob143, ob144, ob145, ob146, ob147, ob148, ob149, ob150, ob151, ob152, ob153, ob154, ob155, ob156, ob157, ob158, ob159, ob160, ob161, ob162, ob163, ob164, ob165, ob166, ob167, ob168, ob169, ob170, ob171, ob172, ob173, ob174, ob175, ob176, ob177, ob178, ob179, ob180, ob181, ob182, ob183, ob184, ob185, ob186, ob187, ob188, ob189, ob190, ob191, ob192, ob193, ob194, ob195, ob196, ob197, ob198, ob199, ob200, ob201, ob202, ob203, ob204, ob205, ob206, ob207, ob208, ob209, ob210, ob211, ob212, ob213, ob214, ob215, ob216, ob217, ob218, ob219, ob220, ob221, ob222, ob223, ob224, ob225, ob226, ob227, ob228, ob229, ob230, ob231, ob232, ob233, ob234, ob235, ob236, ob237, ob238 P, ob239, ob240, ob241, ob242, ob243, ob244, ob245, ob246, ob247, ob248, ob249, ob250, ob251, ob252, ob253, ob254, ob255, ob256, ob257, ob258, ob259, ob260, ob261 P, ob262, ob263, ob264, ob265, ob266, ob267, ob268, ob269, ob270, ob271, ob272, ob273, ob274, ob275, ob276, ob277, ob278, ob279, ob280, ob281, ob282, ob283, ob284, ob285, ob286, ob287, ob288, ob289, ob290, ob291, ob292, ob293, ob294, ob295, ob296, ob297, ob298, ob299, ob300, ob301, ob302, ob303, ob304, ob305, ob306, ob307, ob308, ob309, ob310, ob311, ob312, ob313, ob314, ob315, ob316, ob317, ob318, ob319, ob320, ob321, ob322, ob323, ob324, ob325, ob326, ob327, ob328, ob329, ob330, ob331, ob332, ob333, ob334, ob335, ob336, ob337, ob338, ob339, ob340, ob341, ob342, ob343, ob344, ob345, ob346, ob347, ob348, ob349, ob350, ob351, ob352, ob353, ob354, ob355, ob356, ob357, ob358, ob359, ob360, ob361, ob362, ob363, ob364, ob365, ob366, ob367, ob368, ob369, ob370, ob371, ob372, ob373, ob374, ob375]⟩, {}⟩
set_option maxHeartbeats 0 in
theorem pc_pre (w : World) (os : OsState) : topGo treeTable PySem.Challenge.pw_sumcraft_k37_rows_moved_scaled_ready w 11 (some (.ref 6)) 12 (⟨boot_heap w.params, Array.mk [], boot_drawn, boot_toks, os⟩ : Shared) (topStub PySem.Challenge.pw_sumcraft_k37_rows_moved_scaled_ready) = some ((⟨hp1 w.params, #[], {}, 187, os⟩ : Shared), ⟨denote treeTable cd0, cd0, { line := 0, col := 0, endLine := 0, endCol := 0 }, fr0⟩) := by kernel_rfl
set_option maxHeartbeats 0 in
theorem pc_blk (w : World) (os : OsState) : segRun treeTable PySem.Challenge.pw_sumcraft_k37_rows_moved_scaled_ready w 11 (some (.ref 6)) 1 1 (⟨hp1 w.params, #[], {}, 187, os⟩ : Shared) (blockOf (behindTheImports PySem.Challenge.pw_sumcraft_k37_rows_moved_scaled_ready) env0 cd0 { line := 0, col := 0, endLine := 0, endCol := 0 } fr0) = some (.next, (⟨hp1 w.params, #[], {}, 187, os⟩ : Shared), cd0, { line := 0, col := 0, endLine := 0, endCol := 0 }) := by kernel_rfl
def gl3 : List Stmt := [top 0, top 1, top 2, top 3, top 4, top 5, top 6]
set_option maxHeartbeats 0 in
theorem pc3 (w : World) (os : OsState) : segRun treeTable PySem.Challenge.pw_sumcraft_k37_rows_moved_scaled_ready w 11 (some (.ref 6)) 1 1293 (⟨hp1 w.params, #[], {}, 187, os⟩ : Shared) (piecesOf gl3 env0 cd0 { line := 0, col := 0, endLine := 0, endCol := 0 } fr0) = some (.next, (⟨hp3 w.params, #[], {}, 296, os⟩ : Shared), cd0, { line := 15, col := 0, endLine := 16, endCol := 8 }) := by kernel_rfl
def gl4 : List Stmt := [top 7, top 8, top 9, top 10, top 11, top 12, top 13, top 14, top 15, top 16, top 17, top 18, top 19, top 20, top 21, top 22, top 23, top 24, top 25, top 26, top 27, top 28, top 29, top 30, top 31, top 32, top 33, top 34, top 35, top 36, top 37, top 38, top 39, top 40]
set_option maxHeartbeats 0 in
theorem pc4 (w : World) (os : OsState) : segRun treeTable PySem.Challenge.pw_sumcraft_k37_rows_moved_scaled_ready w 11 (some (.ref 6)) 1 1221 (⟨hp3 w.params, #[], {}, 296, os⟩ : Shared) (piecesOf gl4 env0 cd0 { line := 15, col := 0, endLine := 16, endCol := 8 } fr0) = some (.next, (⟨hp4 w.params, #[], {}, 564, os⟩ : Shared), cd0, { line := 164, col := 0, endLine := 168, endCol := 68 }) := by kernel_rfl
def gl5 : List Stmt := [top 41, top 42, top 43, top 44, top 45, top 46, top 47, top 48, top 49, top 50, top 51, top 52, top 53, top 54, top 55, top 56, top 57]
set_option maxHeartbeats 0 in
theorem pc5 (w : World) (os : OsState) : segRun treeTable PySem.Challenge.pw_sumcraft_k37_rows_moved_scaled_ready w 11 (some (.ref 6)) 1 499 (⟨hp4 w.params, #[], {}, 564, os⟩ : Shared) (piecesOf gl5 env0 cd0 { line := 164, col := 0, endLine := 168, endCol := 68 } fr0) = some (.next, (⟨hp5 w.params, #[], {}, 711, os⟩ : Shared), cd0, { line := 285, col := 0, endLine := 301, endCol := 128 }) := by kernel_rfl
set_option maxHeartbeats 0 in
theorem pc_fin (w : World) (os : OsState) : topRun treeTable PySem.Challenge.pw_sumcraft_k37_rows_moved_scaled_ready w 11 (some (.ref 6)) 2 (⟨hp5 w.params, #[], {}, 711, os⟩ : Shared) ⟨doneF .next, cd0, { line := 285, col := 0, endLine := 301, endCol := 128 }, fr0⟩ = some (⟨hp5 w.params, #[], {}, 711, os⟩ : Shared) := by kernel_rfl
theorem body_is : behindTheImports PySem.Challenge.pw_sumcraft_k37_rows_moved_scaled_ready = gl3 ++ (gl4 ++ (gl5 ++ [])) := by kernel_rfl
theorem run0 (w : World) (os : OsState) : topRun treeTable PySem.Challenge.pw_sumcraft_k37_rows_moved_scaled_ready w 11 (some (.ref 6)) (12 + (1 + (1293 + (1221 + (499 + 2))))) (⟨boot_heap w.params, Array.mk [], boot_drawn, boot_toks, os⟩ : Shared) (topStub PySem.Challenge.pw_sumcraft_k37_rows_moved_scaled_ready) = some (⟨hp5 w.params, #[], {}, 711, os⟩ : Shared) :=
  go_top (pc_pre w os) (piece_block (pc_blk w os) (by
    rw [body_is]
    exact piece_app (pc3 w os) (piece_app (pc4 w os) (piece_app (pc5 w os) (piece_nil (pc_fin w os))))))
def KK (P : Params) : Frag := [(3, ob3'' P), (17, ob17 P), (23, ob23 P), (24, ob24'), (30, ob30 P), (36, ob36 P), (37, ob37), (42, ob42 P), (48, ob48 P), (49, ob49), (54, ob54 P), (60, ob60 P), (61, ob61), (66, ob66 P), (79, ob79 P), (80, ob80), (85, ob85 P), (91, ob91 P), (92, ob92), (97, ob97 P), (103, ob103 P), (104, ob104), (112, ob112), (113, ob113), (119, ob119), (120, ob120), (126, ob126), (127, ob127), (133, ob133), (134, ob134), (147, ob147), (148, ob148), (154, ob154), (155, ob155), (161, ob161), (162, ob162), (168, ob168), (169, ob169), (175, ob175), (176, ob176), (182, ob182), (183, ob183), (189, ob189), (190, ob190), (196, ob196), (197, ob197), (203, ob203), (204, ob204), (208, ob208), (209, ob209), (213, ob213), (214, ob214), (220, ob220), (221, ob221), (227, ob227), (228, ob228), (234, ob234), (235, ob235), (238, ob238 P), (246, ob246), (247, ob247), (253, ob253), (254, ob254), (258, ob258), (259, ob259), (261, ob261 P), (262, ob262), (270, ob270), (271, ob271), (275, ob275), (276, ob276), (280, ob280), (281, ob281), (287, ob287), (288, ob288), (294, ob294), (295, ob295), (301, ob301), (302, ob302), (308, ob308), (309, ob309), (315, ob315), (316, ob316), (322, ob322), (323, ob323), (329, ob329), (330, ob330), (336, ob336), (337, ob337), (343, ob343), (344, ob344), (350, ob350), (351, ob351), (357, ob357), (358, ob358), (364, ob364), (365, ob365), (369, ob369), (370, ob370), (374, ob374), (375, ob375)]
def KA : List Addr := [3, 17, 23, 24, 30, 36, 37, 42, 48, 49, 54, 60, 61, 66, 79, 80, 85, 91, 92, 97, 103, 104, 112, 113, 119, 120, 126, 127, 133, 134, 147, 148, 154, 155, 161, 162, 168, 169, 175, 176, 182, 183, 189, 190, 196, 197, 203, 204, 208, 209, 213, 214, 220, 221, 227, 228, 234, 235, 238, 246, 247, 253, 254, 258, 259, 261, 262, 270, 271, 275, 276, 280, 281, 287, 288, 294, 295, 301, 302, 308, 309, 315, 316, 322, 323, 329, 330, 336, 337, 343, 344, 350, 351, 357, 358, 364, 365, 369, 370, 374, 375]
def qv : Program := view PySem.Challenge.pw_sumcraft_k37_rows_moved_scaled_ready [1, 2, 3, 4, 5, 6, 7, 9, 10, 11, 12, 14, 15, 16, 17, 18, 19, 21, 22, 23, 25, 26, 27, 28, 29, 30, 31, 32, 33, 35, 36, 38, 39, 40, 41, 42, 43, 45, 46, 47, 48, 49, 50, 51, 52, 53, 54, 55, 56, 57]
def xt (s : Shared) : Bool := xlAt qv [] s && recOk (PySem.Challenge.rw_sumcraft_k37_rows_moved_scaled_ready.row.toRowW).records s
def hk : Hook := kHook KK KA fun _ => rfl
set_option maxHeartbeats 0 in
theorem left : LeftO PySem.Challenge.pw_sumcraft_k37_rows_moved_scaled_ready qv [] xt hk.obs hk.val 6146 :=
  LeftO.of_pieces (H₀ := boot_heap) (H₁ := hp5) (gs₁ := #[]) (d₁ := {}) (k₁ := 711)
    (boot_open (by kernel_rfl) rfl fun s => by kernel_rfl)
    (fun w => by kernel_rfl) run0 (by kernel_rfl)
    fun w => by kernel_rfl
set_option maxHeartbeats 0 in
theorem h_well : PySem.Challenge.rw_sumcraft_k37_rows_moved_scaled_ready.wellSaid = true := by kernel_rfl
set_option maxHeartbeats 0 in
theorem h_bare : PySem.Challenge.rw_sumcraft_k37_rows_moved_scaled_ready.row.prog.bare := ⟨rfl, rfl, rfl, rfl, rfl, by decide +kernel⟩
end My
namespace L2
open PySem PySem.Spec PyProof.Rows
abbrev Key := Sum Int Str
def keyIs : Key → Value → Bool
  | .inl k, v => Value.isInt k v
  | .inr x, v => Value.isStrOf x v
def keyH (w : World) : Key → Int
  | .inl k => hashInt k
  | .inr x => hashStr w x
theorem keyIs_shape : ∀ {k : Key} {v : Value}, keyIs k v = true → (∃ i t, k = Sum.inl i ∧ v = Value.int i t) ∨ (∃ x t, k = Sum.inr x ∧ v = Value.str x t)
  | .inl i, v, h => by
    obtain ⟨t, e⟩ := Value.isInt_shape (k := i) (v := v) h
    exact .inl ⟨i, t, rfl, e⟩
  | .inr x, v, h => by
    obtain ⟨t, e⟩ := Value.isStrOf_shape (x := x) (v := v) h
    exact .inr ⟨x, t, rfl, e⟩
theorem key_ll (a b : Int) : decide ((Sum.inl a : Key) = Sum.inl b) = (a == b) := by
  by_cases e : a = b
  · subst e; simp
  · have h : ¬ (Sum.inl a : Key) = Sum.inl b := fun q => e (Sum.inl.inj q)
    rw [decide_eq_false h]
    exact (beq_eq_false_iff_ne.mpr e).symm
theorem key_rr (a b : Str) : decide ((Sum.inr a : Key) = Sum.inr b) = decide (a = b) := by
  by_cases e : a = b
  · subst e; simp
  · have h : ¬ (Sum.inr a : Key) = Sum.inr b := fun q => e (Sum.inr.inj q)
    rw [decide_eq_false h, decide_eq_false e]
theorem key_lr (a : Int) (b : Str) : decide ((Sum.inl a : Key) = Sum.inr b) = false := decide_eq_false (fun q => nomatch q)
theorem key_rl (a : Str) (b : Int) : decide ((Sum.inr a : Key) = Sum.inl b) = false := decide_eq_false (fun q => nomatch q)
def mixKind (prog : Program) (w : World) : PySem.KeyKind prog w Key where
  is := keyIs
  hash := keyH w
  inj := fun v a b ha hb => by
    rcases keyIs_shape ha with ⟨i, t, rfl, rfl⟩ | ⟨x, t, rfl, rfl⟩
    · rcases keyIs_shape hb with ⟨j, u, rfl, e⟩ | ⟨y, u, rfl, e⟩
      · injection e with e1 _; rw [e1]
      · exact nomatch e
    · rcases keyIs_shape hb with ⟨j, u, rfl, e⟩ | ⟨y, u, rfl, e⟩
      · exact nomatch e
      · injection e with e1 _; rw [e1]
  byValue := fun k v h => by
    rcases keyIs_shape h with ⟨i, t, rfl, rfl⟩ | ⟨x, t, rfl, rfl⟩ <;> rfl
  pyHash := fun hv h => by
    rcases keyIs_shape hv with ⟨i, t, rfl, rfl⟩ | ⟨x, t, rfl, rfl⟩
    · exact wpAny_pyHash_int h
    · exact wpAny_pyHash_str h
  eqBool := fun hu hv h => by
    rcases keyIs_shape hu with ⟨i, t, rfl, rfl⟩ | ⟨x, t, rfl, rfl⟩
    · rcases keyIs_shape hv with ⟨j, u, rfl, rfl⟩ | ⟨y, u, rfl, rfl⟩
      · rw [key_ll] at h; exact wpAny_eqBool_int h
      · rw [key_lr] at h; exact SeqAt.EqAt.int_str i t y u _ _ _ _ h
    · rcases keyIs_shape hv with ⟨j, u, rfl, rfl⟩ | ⟨y, u, rfl, rfl⟩
      · rw [key_rl] at h; exact SeqAt.EqAt.str_int x t j u _ _ _ _ h
      · rw [key_rr] at h; exact wpAny_eqBool_str h
  «strs» := fun k x t v h => by
    rcases keyIs_shape h with ⟨i, u, rfl, e⟩ | ⟨y, u, rfl, e⟩
    · exact nomatch e
    · injection e with e1 _
      subst e1
      cases v <;> rfl
end L2
namespace L2
open PySem PySem.Spec PyProof.Rows
inductive V where
  | non | bl (b : Bool) | int (i : Int) | str (x : Str) | byt (b : Array UInt8) | flt (b : UInt64) | ref (a : Addr) | ty (n : String)
  deriving DecidableEq
def RelV : V → Value → Prop
  | .non, u => u = Value.none
  | .bl b, u => u = Value.bool b
  | .int i, u => ∃ t, u = Value.int i t
  | .str x, u => ∃ t, u = Value.str x t
  | .byt b, u => ∃ t, u = Value.bytes b t
  | .flt b, u => ∃ t, u = Value.float b t
  | .ref a, u => u = Value.ref a
  | .ty n, u => u = Value.type n
abbrev Vals : List V → List Value → Prop := Paired RelV
theorem Vals.length {xs : List V} {us : List Value} (r : Vals xs us) : xs.length = us.length := Paired.length r
theorem Vals.get : ∀ {xs : List V} {us : List Value} {i : Nat} {x : V}, Vals xs us → xs[i]? = some x → ∃ u, us[i]? = some u ∧ RelV x u
  | _, _, _, _, .nil, e => by simp at e
  | _, _, 0, _, .cons r _, e => by simp at e; subst e; exact ⟨_, rfl, r⟩
  | _, _, i + 1, x, .cons _ t, e => by
    obtain ⟨u, h1, h2⟩ := Vals.get (i := i) (x := x) t (by simpa using e)
    exact ⟨u, by simpa using h1, h2⟩
theorem Vals.set {x : V} {u : Value} (r : RelV x u) : ∀ {xs : List V} {us : List Value} (i : Nat), Vals xs us → Vals (xs.set i x) (us.set i u)
  | _, _, _, .nil => .nil
  | _, _, 0, .cons _ t => .cons r t
  | _, _, i + 1, .cons q t => .cons q (Vals.set r i t)
theorem Vals.append : ∀ {xs ys : List V} {us ws : List Value}, Vals xs us → Vals ys ws → Vals (xs ++ ys) (us ++ ws)
  | _, _, _, _, .nil, s => s
  | _, _, _, _, .cons r t, s => .cons r (Vals.append t s)
theorem Vals.take : ∀ {xs : List V} {us : List Value} (n : Nat), Vals xs us → Vals (xs.take n) (us.take n)
  | _, _, 0, _ => .nil
  | _, _, _ + 1, .nil => .nil
  | _, _, n + 1, .cons r t => .cons r (Vals.take n t)
theorem Vals.drop : ∀ {xs : List V} {us : List Value} (n : Nat), Vals xs us → Vals (xs.drop n) (us.drop n)
  | _, _, 0, r => r
  | _, _, _ + 1, .nil => .nil
  | _, _, n + 1, .cons _ t => Vals.drop n t
def RelO : Option V → Option Value → Prop
  | some v, some u => RelV v u
  | none, none => True
  | _, _ => False
def KV {κ : Type} : List (κ × V) → List (κ × Value) → Prop := Paired fun (p : κ × V) (q : κ × Value) => p.1 = q.1 ∧ RelV p.2 q.2
def kV : Key → V
  | .inl i => .int i
  | .inr x => .str x
inductive HO where
    | lst (xs : List V)
    | tup (xs : List V)
    | dK (kvs : List (Key × V)) | dT (kvs : List (List Key × V))
    | set (S : Int → Bool) (n : Nat)
    | ins (C dx : Addr) (fs : List (Str × V))
    | own (x : Addr)
    | xd (fs : List (Str × V))
    | met (f x : Addr)
    | rng (lo hi : Int)
    | frz (o : Obj) (u : HO)
    | tbl (ps : Array Value)
    | ext (φ : Heap → Prop)
abbrev Hp := Addr → Option HO
def upd (H : Hp) (a : Addr) (o : HO) : Hp := fun b => if b = a then some o else H b
theorem upd_same {H : Hp} {a : Addr} {o : HO} : upd H a o a = some o := by unfold upd; rw [if_pos rfl]
theorem upd_ne {H : Hp} {a b : Addr} {o : HO} (h : b ≠ a) : upd H a o b = H b := by unfold upd; rw [if_neg h]
theorem upd_upd {H : Hp} {a : Addr} {o u : HO} : upd (upd H a o) a u = upd H a u := by
  funext b; unfold upd; split <;> rfl
theorem ne_of {H : Hp} {a b : Addr} {o u : HO} (h : H a = some o) (h' : H b = some u) (d : o ≠ u) : a ≠ b := by
  intro e; subst e; rw [h] at h'; exact d (Option.some.inj h')
theorem ne_of_none {H : Hp} {a b : Addr} {o : HO} (h : H a = some o) (h' : H b = none) : a ≠ b := by
  intro e; subst e; rw [h] at h'; cases h'
section
variable (P : Program) (w : World)
def ObjOk (H : Hp) (h : Heap) (a : Addr) : HO → Prop
  | .lst xs => xs.length ≤ sizeLine ∧ ∃ (its : List Value) (n : Nat), Vals xs its ∧ h.get? a = some { cls := .type "list", data := .seq its.toArray n }
  | .tup xs => xs.length ≤ sizeLine ∧ ∃ its : List Value, Vals xs its ∧ IsTup h a its.toArray
  | .dK kvs => kvs.length ≤ sizeLine ∧ (a == sysModules) = false ∧ ∃ vs, KV kvs vs ∧ h.DictOf (mixKind P w) a vs
  | .dT kvs => kvs.length ≤ sizeLine ∧ (a == sysModules) = false ∧ ∃ xs : List (List Key × Addr × Value),
      Paired (fun (p : List Key × V) (q : List Key × Addr × Value) => p.1 = q.1 ∧ H q.2.1 = some (.tup (p.1.map kV)) ∧ RelV p.2 q.2.2) kvs xs ∧
      ∃ o es ep, h.get? a = some o ∧ o.ExactDict ∧ o.data = .dict es ep ∧ es.toList = xs.map (entryOfKey (tupleKind (mixKind P w))) ∧ (xs.map (·.1)).Nodup
  | .set S n => h.SetOf (intKind P w) a S n
  | .ins C dx fs => H dx = some (.own a) ∧ fs.length ≤ 1000 ∧ dx ≠ a ∧ h.get? a = some (PySem.W.instObj C dx) ∧
      ∃ mA, h.Ns1 dx mA ∧ (∀ f, RelO (fs.lookup f) (mA f)) ∧ PySem.Within mA (fs.map (·.1))
  | .own _ => ∃ o, h.get? a = some o
  | .xd fs => ∃ mA, h.Ns1 a mA ∧ ∀ f, RelO (fs.lookup f) (mA f)
  | .rng lo hi => ∃ t u v, h.get? a = some { cls := .type "range", data := .fields #[.int lo t, .int hi u, .int 1 v] }
  | .frz o u => h.get? a = some o ∧ ObjOk H h a u
  | .tbl ps => h.get? a = some { cls := .none, data := .fields ps }
  | .met f x => h.get? a = some (PySem.W.methodObj (.ref f) (.ref x))
  | .ext φ => φ h ∧ (∃ o, h.get? a = some o) ∧ ∀ h1 h2 : Heap, φ h1 → (∀ o, h1.get? a = some o → h2.get? a = some o) → φ h2
def HOk (H : Hp) (h : Heap) : Prop := ∀ a o, H a = some o → ObjOk P w H h a o
end
section
variable {P : Program} {w : World} {H H' : Hp} {h h' : Heap} {a : Addr} {o : HO}
theorem ObjOk.lt (x : ObjOk P w H h a o) : a < h.objs.size := by
  cases o with
  | lst xs => obtain ⟨_, _, _, _, e⟩ := x; exact Heap.lt_size e
  | tup xs => obtain ⟨_, _, _, p⟩ := x; exact p.lt
  | dK kvs => obtain ⟨_, _, _, _, o, _, _, e, _⟩ := x; exact Heap.lt_size e
  | dT kvs => obtain ⟨_, _, _, _, o, _, _, e, _⟩ := x; exact Heap.lt_size e
  | set S n => obtain ⟨o, _, _, _, e, _⟩ := x; exact Heap.lt_size e
  | ins C dx fs => obtain ⟨_, _, _, e, _⟩ := x; exact Heap.lt_size e
  | own y => obtain ⟨_, e⟩ := x; exact Heap.lt_size e
  | xd fs => obtain ⟨_, ⟨_, _, _, e, _⟩, _⟩ := x; exact Heap.lt_size e
  | rng lo hi => obtain ⟨_, _, _, e⟩ := x; exact Heap.lt_size e
  | frz ob u => obtain ⟨e, _⟩ := x; exact Heap.lt_size e
  | tbl ps => exact Heap.lt_size (show h.get? a = some _ from x)
  | met f y => exact Heap.lt_size (show h.get? a = some _ from x)
  | ext φ => obtain ⟨_, ⟨_, e⟩, _⟩ := x; exact Heap.lt_size e
theorem Paired.mapP {α β : Type} {F G : α → β → Prop} : ∀ {l₁ : List α} {l₂ : List β}, Paired F l₁ l₂ → (∀ a b, F a b → G a b) → Paired G l₁ l₂
  | _, _, .nil, _ => .nil
  | _, _, .cons r t, f => .cons (f _ _ r) (Paired.mapP t f)
theorem ObjOk.stay (x : ObjOk P w H h a o) (k : ∀ b u, (b = a ∨ H b = some (.own a)) → h.get? b = some u → h'.get? b = some u)
    (ho : ∀ b, H b = some (.own a) → H' b = some (.own a)) (ht : ∀ b xs, H b = some (.tup xs) → H' b = some (.tup xs)) : ObjOk P w H' h' a o := by
  induction o with
  | lst xs => obtain ⟨z, its, n, r, e⟩ := x; exact ⟨z, its, n, r, k _ _ (.inl rfl) e⟩
  | tup xs => obtain ⟨z, its, r, ob, e, c⟩ := x; exact ⟨z, its, r, ob, k _ _ (.inl rfl) e, c⟩
  | dK kvs => obtain ⟨z, y, vs, r, ob, es, ep, e, c⟩ := x; exact ⟨z, y, vs, r, ob, es, ep, k _ _ (.inl rfl) e, c⟩
  | dT kvs =>
    obtain ⟨z, y, xs, r, ob, es, ep, e, c⟩ := x
    exact ⟨z, y, xs, Paired.mapP r fun p q z => ⟨z.1, ht _ _ z.2.1, z.2.2⟩, ob, es, ep, k _ _ (.inl rfl) e, c⟩
  | set S n => obtain ⟨ob, es, ep, t, e, c⟩ := x; exact ⟨ob, es, ep, t, k _ _ (.inl rfl) e, c⟩
  | ins C dx fs =>
    obtain ⟨d, z, ne, e, mA, ⟨od, es, ep, e2, c⟩, r⟩ := x
    exact ⟨ho _ d, z, ne, k _ _ (.inl rfl) e, mA, ⟨od, es, ep, k _ _ (.inr d) e2, c⟩, r⟩
  | own y => obtain ⟨ob, e⟩ := x; exact ⟨ob, k _ _ (.inl rfl) e⟩
  | xd fs => obtain ⟨mA, ⟨od, es, ep, e, c⟩, r⟩ := x; exact ⟨mA, ⟨od, es, ep, k _ _ (.inl rfl) e, c⟩, r⟩
  | rng lo hi => obtain ⟨t, u, v, e⟩ := x; exact ⟨t, u, v, k _ _ (.inl rfl) e⟩
  | frz ob u ih => obtain ⟨e, q⟩ := x; exact ⟨k _ _ (.inl rfl) e, ih q⟩
  | tbl ps =>
    have e : h.get? a = some { cls := .none, data := .fields ps } := x
    show h'.get? a = some { cls := .none, data := .fields ps }
    exact k a _ (.inl rfl) e
  | met f y =>
    have e : h.get? a = some (PySem.W.methodObj (.ref f) (.ref y)) := x
    show h'.get? a = some (PySem.W.methodObj (.ref f) (.ref y))
    exact k a _ (.inl rfl) e
  | ext φ => obtain ⟨p, ⟨o, e⟩, st⟩ := x; exact ⟨st _ _ p fun o q => k _ _ (.inl rfl) q, ⟨o, k _ _ (.inl rfl) e⟩, st⟩
theorem HOk.lt (x : HOk P w H h) (e : H a = some o) : a < h.objs.size := (x a o e).lt
theorem HOk.fresh (x : HOk P w H h) (e : h.objs.size ≤ a) : H a = none := by
  cases q : H a with
  | none => rfl
  | some u => exact absurd (Nat.lt_of_lt_of_le (x.lt q) e) (Nat.lt_irrefl _)
theorem HOk.kept (x : HOk P w H h) (k : ∀ b u, h.get? b = some u → h'.get? b = some u) : HOk P w H h' := fun a o e =>
  (x a o e).stay (fun b u _ q => k b u q) (fun _ q => q) fun _ _ q => q
theorem HOk.laid (x : HOk P w H h) (k : ∀ b u, h.get? b = some u → h'.get? b = some u) (hp : h.objs.size ≤ a) (new : ObjOk P w (upd H a o) h' a o) : HOk P w (upd H a o) h' := fun b u e => by
  have hn := x.fresh hp
  by_cases hb : b = a
  · subst hb; rw [upd_same] at e; cases e; exact new
  · rw [upd_ne hb] at e
    exact (x b u e).stay (fun c v _ q => k c v q) (fun c q => by rw [upd_ne (ne_of_none q hn)]; exact q) fun c xs q => by rw [upd_ne (ne_of_none q hn)]; exact q
end
def Rd (H : Hp) (a : Addr) (u : HO) : Prop := H a = some u ∨ ∃ o, H a = some (.frz o u)
theorem Rd.ok {P : Program} {w : World} {H : Hp} {h : Heap} {a : Addr} {u : HO} (r : Rd H a u) (x : HOk P w H h) : ObjOk P w H h a u := by
  rcases r with r | ⟨o, r⟩
  · exact x a u r
  · obtain ⟨_, q⟩ := x a _ r
    exact q
def Mut : Option HO → Prop
  | some (.lst _) => True
  | some (.dK _) => True
  | some (.dT _) => True
  | some (.set _ _) => True
  | some (.ins _ _ _) => True
  | some (.ext _) => True
  | _ => False
section
variable {P : Program} {w : World} {H : Hp} {h h' : Heap} {x e : Addr} {o' : HO}
theorem HOk.write (ok : HOk P w H h) (mu : Mut (H x)) (he : e = x ∨ H e = some (.own x)) (k : ∀ b u, b ≠ e → h.get? b = some u → h'.get? b = some u) (heo : ∃ u, h'.get? e = some u)
    (new : ObjOk P w (upd H x o') h' x o') : HOk P w (upd H x o') h' := fun b u q => by
  have nown : ∀ c y, H c = some (.own y) → c ≠ x := fun c y r z => by subst z; rw [r] at mu; exact mu
  have ntup : ∀ c xs, H c = some (.tup xs) → c ≠ x := fun c xs r z => by subst z; rw [r] at mu; exact mu
  by_cases hb : b = x
  · subst hb; rw [upd_same] at q; cases q; exact new
  · rw [upd_ne hb] at q
    by_cases hbe : b = e
    · have q' : H b = some (.own x) := by
        rcases he with z | z
        · exact absurd (hbe.trans z) hb
        · rw [hbe]; exact z
      rw [q] at q'; cases q'
      obtain ⟨v, hv⟩ := heo
      exact ⟨v, by rw [hbe]; exact hv⟩
    · refine (ok b u q).stay (fun c v hc r => k c v ?_ r) (fun c r => by rw [upd_ne (nown c b r)]; exact r) fun c xs r => by rw [upd_ne (ntup c xs r)]; exact r
      rcases hc with rfl | hc
      · exact hbe
      · rintro rfl
        rcases he with z | z
        · exact nown c b hc z
        · rw [hc] at z; cases z; exact hb rfl
end
structure Un (fs ex : List Addr) (H H' : Hp) (h h' : Heap) : Prop where
  keep : ∀ b o, h.get? b = some o → H b = none → b ∉ fs → b ∉ ex → h'.get? b = some o
  slot : ∀ b o, h.get? b = some o → H b = none → b ∈ fs → b ∉ ex → ∃ sl, h'.get? b = some { o with slots := sl }
  free : ∀ b o, h.get? b = some o → H b = none → b ∉ ex → H' b = none
  there : ∀ b o, h.get? b = some o → b ∉ ex → ∃ o', h'.get? b = some o'
  tups : ∀ b xs, H b = some (.tup xs) → H' b = some (.tup xs)
  frzs : ∀ b o u, H b = some (.frz o u) → H' b = some (.frz o u)
  tbls : ∀ b ps, H b = some (.tbl ps) → ∃ more, H' b = some (.tbl (ps ++ more))
section
variable {fs fs' ex ex' : List Addr} {H H1 H2 : Hp} {h h1 h2 h' : Heap} {a x e : Addr} {o : HO}
theorem Un.any (u : Un fs ex H H1 h h1) {b : Addr} {ob : Obj} (q : h.get? b = some ob) (n : H b = none) (hx : b ∉ ex) : ∃ sl, h1.get? b = some { ob with slots := sl } := by
  by_cases hb : b ∈ fs
  · exact u.slot b ob q n hb hx
  · exact ⟨ob.slots, u.keep b ob q n hb hx⟩
theorem Un.trans (a : Un fs ex H H1 h h1) (b : Un fs ex H1 H2 h1 h2) : Un fs ex H H2 h h2 where
  keep := fun c ob q n hc hx => b.keep c ob (a.keep c ob q n hc hx) (a.free c ob q n hx) hc hx
  slot := fun c ob q n hc hx => by
    obtain ⟨sl, e1⟩ := a.slot c ob q n hc hx
    obtain ⟨sl', e2⟩ := b.slot c _ e1 (a.free c ob q n hx) hc hx
    exact ⟨sl', e2⟩
  free := fun c ob q n hx => by
    obtain ⟨o', e1⟩ := a.there c ob q hx
    exact b.free c o' e1 (a.free c ob q n hx) hx
  there := fun c ob q hx => by
    obtain ⟨o', e1⟩ := a.there c ob q hx
    exact b.there c o' e1 hx
  tups := fun c xs q => b.tups c xs (a.tups c xs q)
  frzs := fun c ob xs q => b.frzs c ob xs (a.frzs c ob xs q)
  tbls := fun c ps q => by
    obtain ⟨m1, e1⟩ := a.tbls c ps q
    obtain ⟨m2, e2⟩ := b.tbls c _ e1
    exact ⟨m1 ++ m2, by rw [e2, Array.append_assoc]⟩
theorem Un.kept (k : ∀ b u, h.get? b = some u → h'.get? b = some u) : Un fs ex H H h h' :=
  ⟨fun b ob q _ _ _ => k b ob q, fun b ob q _ _ _ => ⟨ob.slots, k b ob q⟩, fun _ _ _ n _ => n, fun b ob q _ => ⟨ob, k b ob q⟩, fun _ _ q => q, fun _ _ _ q => q, fun _ ps q => ⟨#[], by rw [q]; simp⟩⟩
theorem Un.refl : Un fs ex H H h h := Un.kept fun _ _ q => q
theorem Un.laid (k : ∀ b u, h.get? b = some u → h'.get? b = some u) (hp : h.objs.size ≤ a) (hn : H a = none) : Un fs ex H (upd H a o) h h' where
  keep := fun b u q _ _ _ => k b u q
  slot := fun b u q _ _ _ => ⟨u.slots, k b u q⟩
  free := fun b u q n _ => by rw [upd_ne (Nat.ne_of_lt (Nat.lt_of_lt_of_le (Heap.lt_size q) hp))]; exact n
  there := fun b u q _ => ⟨u, k b u q⟩
  tups := fun b xs q => by rw [upd_ne (ne_of_none q hn)]; exact q
  frzs := fun b u xs q => by rw [upd_ne (ne_of_none q hn)]; exact q
  tbls := fun b ps q => ⟨#[], by rw [upd_ne (ne_of_none q hn), q]; simp⟩
theorem Un.write (mu : Mut (H x)) (he : e = x ∨ H e = some (.own x)) (k : ∀ b u, b ≠ e → h.get? b = some u → h'.get? b = some u) (heo : ∃ u, h'.get? e = some u) : Un fs ex H (upd H x o) h h' := by
  have hx : ∀ b, H b = none → b ≠ x := fun b n z => by subst z; rw [n] at mu; exact mu
  have hb : ∀ b, H b = none → b ≠ e := fun b n z => by
    subst z
    rcases he with r | r
    · exact hx b n r
    · rw [n] at r; cases r
  have hm : ∀ b u, H b = some u → ¬ Mut (some u) → b ≠ x := fun b u q nm z => by subst z; rw [q] at mu; exact nm mu
  refine ⟨fun b u q n _ _ => k b u (hb b n) q, fun b u q n _ _ => ⟨u.slots, k b u (hb b n) q⟩, fun b u q n _ => by rw [upd_ne (hx b n)]; exact n, fun b u q _ => ?_,
    fun b xs q => by rw [upd_ne (hm b _ q fun z => z)]; exact q, fun b u xs q => by rw [upd_ne (hm b _ q fun z => z)]; exact q, fun b ps q => ⟨#[], by rw [upd_ne (hm b _ q fun z => z), q]; simp⟩⟩
  by_cases hbe : b = e
  · subst hbe; exact heo
  · exact ⟨u, k b u hbe q⟩
end
def trk (h : Heap) (H : Hp) : List Addr := (List.range h.objs.size).filter fun a => (H a).isSome
def hidT (h : Heap) (H : Hp) : Heap := PySem.W.hideAll h (trk h H)
theorem hidT_size (h : Heap) (H : Hp) : (hidT h H).objs.size = h.objs.size := PySem.W.hideAll_size _ _
theorem hidT_get {h : Heap} {H : Hp} {b : Addr} {o : Obj} (e : h.get? b = some o) (n : H b = none) : (hidT h H).get? b = some o :=
  PySem.W.hideAll_get _ e fun hm => by
    have q : (H b).isSome = true := (List.mem_filter.mp hm).2
    rw [n] at q; simp at q
theorem of_hidT {h : Heap} {H : Hp} {b : Addr} {o : Obj} (e : (hidT h H).get? b = some o) : h.get? b = some o ∧ H b = none := by
  have e' : h.get? b = some o := PySem.W.of_hideAll (trk h H) e
  refine ⟨e', ?_⟩
  cases q : H b with
  | none => rfl
  | some x =>
    have hm : b ∈ trk h H := List.mem_filter.mpr ⟨List.mem_range.mpr (Heap.lt_size e'), by simp [q]⟩
    have z : (hidT h H).get? b = none := PySem.W.hideAll_none (trk h H) hm
    rw [z] at e; cases e
def allNews (g h : Heap) (L : Addr) : List (Addr × Obj) := (List.range h.objs.size).filterMap fun a => if a = L ∨ (g.get? a).isSome = true then none else (h.get? a).map fun o => (a, o)
def rest (g h : Heap) (L d : Addr) : List (Addr × Obj) := (allNews g h L).filter fun p => decide (p.1 ≠ d)
end L2
namespace L2
open PySem PySem.Spec PyProof.Rows
structure Mod (K : PySem.W.Frag) (mg : Str → Option Value) (base : Heap) : Prop where
  kin : K.In base
  glob : base.Ns mainGlobals mg
  blt : ∃ mb, base.Ns builtinsNs mb ∧ ∀ x : Str, x ≠ "__name__" → mb x = bootBuiltins x
  nolimit : base.NoLimit
structure Cx where
  prog : Program
  w : World
  K : PySem.W.Frag
  mg : Str → Option Value
  base : Heap
  A : Around
  N : List Str
  s₀ : Shared
  H₀ : Hp
  env : Env
  outer : List Env
  stack : List Env
  ex : List Addr
  fn : Str → Bool
  calm : Bool
  pn : List (Addr × Obj)
  xe : Value → Shared → Prop
def frs (l : List Env) : List Addr := l.filterMap (·.frame)
abbrev Cx.fs (X : Cx) : List Addr := frs X.outer
def Vis (sc : Scope) (x : Str) : Prop := sc.names.lookup x = some .local ∨ sc.names.lookup x = some .cell ∨ sc.names.lookup x = some .free
def Loc (sc : Scope) (x : Str) : Prop := sc.names.lookup x = some .local ∨ sc.names.lookup x = some .cell
def Look (env : Env) (h : Heap) (m : Str → Option Value) (x : Str) (u : Value) : Prop :=
  (env.kindOf x = some .local ∧ m x = some u) ∨ ((env.kindOf x = some .cell ∨ env.kindOf x = some .free) ∧ ∃ c, env.cells.lookup x = some c ∧ h.IsCell c (some u))
structure Cx.Ok (X : Cx) : Prop where
  mod : Mod X.K X.mg X.base
  kind : X.env.scope.kind = .function
  glob : X.env.globals = mainGlobals
  blt : X.env.builtins = builtinsNs
  above : X.s₀.heap.objs.size ≤ X.env.locals
  inj : ∀ x y c, X.env.cells.lookup x = some c → X.env.cells.lookup y = some c → x = y
  has : ∀ x, (X.env.kindOf x = some .cell ∨ X.env.kindOf x = some .free) → ∃ c, X.env.cells.lookup x = some c
  cab : ∀ x c, X.fn x = true → X.env.cells.lookup x = some c → X.s₀.heap.objs.size ≤ c
  hd : X.calm = true → X.A.handled = none
  frames : X.A.frames = some X.stack
  stk : X.stack = X.outer ∨ (X.stack = X.env :: X.outer ∧ X.env.frame = some X.env.locals)
  exf : ∀ b ∈ X.ex, b ≠ X.env.locals ∧ ∀ x c, X.env.cells.lookup x = some c → c ≠ b
  bs : ∀ b o, X.base.get? b = some o → X.s₀.heap.get? b = some o ∧ X.H₀ b = none
  bsz : X.base.objs.size ≤ X.s₀.heap.objs.size
  noex : ∀ b o, X.base.get? b = some o → b ∉ X.ex
  exfs : ∀ b ∈ X.ex, b ∉ X.fs
  funs : X.s₀.heap.FunFrames X.base X.outer
  frf : ∀ b ∈ X.fs, X.H₀ b = none
structure Inv (X : Cx) (pins : List (Addr × Obj)) (σ : List (Option V)) (H : Hp) (s : Shared) : Prop where
  ok : X.Ok
  os : s.os = X.s₀.os
  bare : AllBare s.gens
  base : Un X.fs X.ex X.H₀ H X.s₀.heap s.heap
  loc : ∃ m, s.heap.Ns X.env.locals m ∧ ∀ (i : Nat) (x : Str) (v : V), X.N[i]? = some x → σ[i]? = some (some v) → Vis X.env.scope x → ∃ u, RelV v u ∧ Look X.env s.heap m x u
  cell : ∀ x c, X.env.cells.lookup x = some c → ∃ v, s.heap.IsCell c v
  free : H X.env.locals = none
  freeC : ∀ x c, X.env.cells.lookup x = some c → H c = none
  pin : ∀ p ∈ X.pn ++ pins, s.heap.get? p.1 = some p.2 ∧ H p.1 = none ∧ p.1 ≠ X.env.locals ∧ p.1 ∉ X.fs ∧ ∀ v, p.2.data ≠ .cell v
  hok : HOk X.prog X.w H s.heap
  len : σ.length = X.N.length
section
variable {X : Cx} {pins : List (Addr × Obj)} {σ : List (Option V)} {H H' : Hp} {s : Shared} {h' : Heap}
theorem Cx.Ok.nofr (ok : X.Ok) {b : Addr} {o : Obj} (e : X.base.get? b = some o) : b ∉ X.fs := fun hb => by
  have := (ok.funs.mem hb).1
  rw [e] at this; cases this
theorem Inv.bs (I : Inv X pins σ H s) : ∀ b o, X.base.get? b = some o → s.heap.get? b = some o ∧ H b = none := fun b o e =>
  ⟨I.base.keep b o (I.ok.bs b o e).1 (I.ok.bs b o e).2 (I.ok.nofr e) (I.ok.noex b o e), I.base.free b o (I.ok.bs b o e).1 (I.ok.bs b o e).2 (I.ok.noex b o e)⟩
theorem Inv.bk (I : Inv X pins σ H s) : ∀ b o, X.base.get? b = some o → s.heap.get? b = some o := fun b o e => (I.bs b o e).1
theorem Inv.mod (I : Inv X pins σ H s) : Mod X.K X.mg X.base := I.ok.mod
theorem Inv.kIn (I : Inv X pins σ H s) : X.K.In s.heap := I.ok.mod.kin.keeps I.bk
theorem Inv.lt (I : Inv X pins σ H s) : X.env.locals < s.heap.objs.size := let ⟨_, hn, _⟩ := I.loc; hn.lt
theorem Inv.sz (I : Inv X pins σ H s) : X.s₀.heap.objs.size ≤ s.heap.objs.size := Nat.le_trans I.ok.above (Nat.le_of_lt I.lt)
theorem Inv.nofs (I : Inv X pins σ H s) {a : Addr} (h : s.heap.objs.size ≤ a) : a ∉ X.fs := fun hb => by
  obtain ⟨_, o, ho, _⟩ := I.ok.funs.mem hb
  exact absurd (Nat.lt_of_lt_of_le (Heap.lt_size ho) (Nat.le_trans I.sz h)) (Nat.lt_irrefl _)
theorem Inv.cne (I : Inv X pins σ H s) : ∀ x c, X.env.cells.lookup x = some c → c ≠ X.env.locals := fun x c e z => by
  obtain ⟨v, o, ho, hd⟩ := I.cell x c e
  obtain ⟨m, ⟨o', es, ep, ho', hd', _⟩, _⟩ := I.loc
  rw [z, ho'] at ho; cases ho; rw [hd'] at hd; cases hd
theorem Inv.funs (I : Inv X pins σ H s) : s.heap.FunFrames X.base X.outer := by
  have all : ∀ (l : List Env), (∀ b ∈ frs l, b ∈ X.fs) → X.s₀.heap.FunFrames X.base l → s.heap.FunFrames X.base l := by
    intro l
    induction l with
    | nil => intro _ _; trivial
    | cons env r ih =>
      intro hs hl
      obtain ⟨hk, ⟨L, o, hf, hn, ho, hd⟩, hr⟩ := hl
      have hL : L ∈ X.fs := hs L (by unfold frs; rw [List.filterMap_cons, hf]; exact List.mem_cons_self)
      obtain ⟨sl, e⟩ := I.base.slot L o ho (I.ok.frf L hL) hL fun z => I.ok.exfs L z hL
      exact ⟨hk, ⟨L, _, hf, hn, e, hd⟩, ih (fun b hb => hs b (by unfold frs; rw [List.filterMap_cons, hf]; exact List.mem_cons_of_mem _ hb)) hr⟩
  exact all X.outer (fun _ hb => hb) I.ok.funs
theorem Inv.stack (I : Inv X pins σ H s) : s.heap.FunFrames X.base X.stack := by
  rcases I.ok.stk with e | ⟨e, hf⟩
  · rw [e]; exact I.funs
  · rw [e]
    obtain ⟨m, hn, _⟩ := I.loc
    refine .cons (by rw [I.ok.kind]; decide) hf hn ?_ I.funs
    exact Heap.get?_none_of_le (Nat.le_trans I.ok.bsz I.ok.above)
theorem Inv.stkSub (I : Inv X pins σ H s) : ∀ b ∈ frs X.stack, b ∈ X.env.locals :: X.fs := fun b hb => by
  rcases I.ok.stk with e | ⟨e, hf⟩
  · rw [e] at hb; exact List.mem_cons_of_mem _ hb
  · rw [e] at hb
    unfold frs at hb
    rw [List.filterMap_cons, hf] at hb
    exact hb
theorem Inv.stkFree (I : Inv X pins σ H s) : ∀ b ∈ frs X.stack, H b = none := fun b hb => by
  rcases List.mem_cons.mp (I.stkSub b hb) with e | hb
  · rw [e]; exact I.free
  · obtain ⟨_, o, ho, _⟩ := I.ok.funs.mem hb
    exact I.base.free b o ho (I.ok.frf b hb) fun z => I.ok.exfs b z hb
theorem Inv.step {g' : Array GenState} {t' : Nat} {d' : Drawn} {ch : List Addr} (I : Inv X pins σ H s)
    (hch : ∀ b ∈ ch, (b ∈ X.ex ∨ X.s₀.heap.objs.size ≤ b) ∧ b ≠ X.env.locals ∧ (∀ x c, X.env.cells.lookup x = some c → c ≠ b) ∧ ∀ p ∈ X.pn ++ pins, p.1 ≠ b)
    (keep : ∀ b o, b ≠ X.env.locals → b ∉ X.fs → b ∉ ch → s.heap.get? b = some o → H b = none → h'.get? b = some o)
    (slot : ∀ b o, b ≠ X.env.locals → b ∈ X.fs → b ∉ ch → s.heap.get? b = some o → H b = none → ∃ sl, h'.get? b = some { o with slots := sl }) (free : ∀ b o, b ∉ ch → s.heap.get? b = some o → H b = none → H' b = none)
    (there : ∀ b o, b ∉ ch → s.heap.get? b = some o → ∃ o', h'.get? b = some o')
    (tups : ∀ b xs, H b = some (.tup xs) → H' b = some (.tup xs)) (frzs : ∀ b o u, H b = some (.frz o u) → H' b = some (.frz o u)) (tbls : ∀ b ps, H b = some (.tbl ps) → ∃ more, H' b = some (.tbl (ps ++ more)))
    (ns : ∀ m, s.heap.Ns X.env.locals m → h'.Ns X.env.locals m) (hok : HOk X.prog X.w H' h') (hg : AllBare g') :
    Inv X pins σ H' { s with heap := h', gens := g', drawn := d', toks := t' } := by
  have neL : ∀ b o, X.s₀.heap.get? b = some o → b ≠ X.env.locals := fun b o e => Nat.ne_of_lt (Nat.lt_of_lt_of_le (Heap.lt_size e) I.ok.above)
  have neC : ∀ b o, X.s₀.heap.get? b = some o → b ∉ X.ex → b ∉ ch := fun b o e hx hb => by
    rcases (hch b hb).1 with z | z
    · exact hx z
    · exact absurd (Nat.lt_of_lt_of_le (Heap.lt_size e) z) (Nat.lt_irrefl _)
  have cellK : ∀ x c, X.env.cells.lookup x = some c → ∀ v, s.heap.IsCell c v → h'.IsCell c v := fun x c e v ⟨o, ho, hd⟩ => by
    have nch : c ∉ ch := fun z => (hch c z).2.2.1 x c e rfl
    by_cases hc : c ∈ X.fs
    · obtain ⟨sl, q⟩ := slot c o (I.cne x c e) hc nch ho (I.freeC x c e)
      exact ⟨_, q, hd⟩
    · exact ⟨o, keep c o (I.cne x c e) hc nch ho (I.freeC x c e), hd⟩
  refine ⟨I.ok, I.os, hg, ⟨fun b o e n hb hx => ?_, fun b o e n hb hx => ?_, fun b o e n hx => ?_, fun b o e hx => ?_, fun b xs e => tups b xs (I.base.tups b xs e), fun b o xs e => frzs b o xs (I.base.frzs b o xs e), fun b ps e => ?_⟩, ?_, fun x c e => ?_, ?_, fun x c e => ?_, fun p hp => ?_, hok, I.len⟩
  · exact keep b o (neL b o e) hb (neC b o e hx) (I.base.keep b o e n hb hx) (I.base.free b o e n hx)
  · obtain ⟨sl, e1⟩ := I.base.slot b o e n hb hx
    obtain ⟨sl', e2⟩ := slot b _ (neL b o e) hb (neC b o e hx) e1 (I.base.free b o e n hx)
    exact ⟨sl', e2⟩
  · obtain ⟨o', e1⟩ := I.base.there b o e hx
    exact free b o' (neC b o e hx) e1 (I.base.free b o e n hx)
  · obtain ⟨o', e1⟩ := I.base.there b o e hx
    exact there b o' (neC b o e hx) e1
  · obtain ⟨m1, e1⟩ := I.base.tbls b ps e
    obtain ⟨m2, e2⟩ := tbls b _ e1
    exact ⟨m1 ++ m2, by rw [e2, Array.append_assoc]⟩
  · obtain ⟨m, hn, hl⟩ := I.loc
    refine ⟨m, ns m hn, fun i x v e1 e2 e3 => ?_⟩
    obtain ⟨u, r, l⟩ := hl i x v e1 e2 e3
    refine ⟨u, r, ?_⟩
    rcases l with l | ⟨k, c, e, z⟩
    · exact .inl l
    · exact .inr ⟨k, c, e, cellK x c e _ z⟩
  · obtain ⟨v, z⟩ := I.cell x c e
    exact ⟨v, cellK x c e v z⟩
  · obtain ⟨m, ⟨o, _, _, ho, _⟩, _⟩ := I.loc
    exact free _ o (fun z => (hch _ z).2.1 rfl) ho I.free
  · obtain ⟨v, o, ho, hd⟩ := I.cell x c e
    exact free c o (fun z => (hch c z).2.2.1 x c e rfl) ho (I.freeC x c e)
  · obtain ⟨e, n, ne, nf, d⟩ := I.pin p hp
    have nch : p.1 ∉ ch := fun z => (hch p.1 z).2.2.2 p hp rfl
    exact ⟨keep p.1 p.2 ne nf nch e n, free p.1 p.2 nch e n, ne, nf, d⟩
theorem Inv.un {t' : Nat} (I : Inv X pins σ H s) (u : Un X.fs [] H H' s.heap h') (hok : HOk X.prog X.w H' h') : Inv X pins σ H' { s with heap := h', toks := t' } := by
  obtain ⟨m, ⟨o, es, ep, ho, r⟩, _⟩ := id I.loc
  obtain ⟨sl, hL⟩ := u.any ho I.free (by simp)
  exact I.step (g' := s.gens) (d' := s.drawn) (ch := []) (fun _ z => nomatch z) (fun b o _ hb _ e n => u.keep b o e n hb (by simp)) (fun b o _ hb _ e n => u.slot b o e n hb (by simp)) (fun b o _ e n => u.free b o e n (by simp)) (fun b o _ e => u.there b o e (by simp)) u.tups u.frzs u.tbls (fun m' hm => by
    obtain ⟨o', es', ep', ho', r'⟩ := hm
    rw [ho] at ho'; cases ho'
    exact ⟨_, es', ep', hL, r'⟩) hok I.bare
theorem Inv.call {g' : Array GenState} {t' : Nat} {d' : Drawn} {ch : List Addr} (I : Inv X pins σ H s) (u : Un (frs X.stack) ch H H' s.heap h') (hok : HOk X.prog X.w H' h') (hg : AllBare g')
    (hch : ∀ b ∈ ch, (b ∈ X.ex ∨ X.s₀.heap.objs.size ≤ b) ∧ b ≠ X.env.locals ∧ (∀ x c, X.env.cells.lookup x = some c → c ≠ b) ∧ ∀ p ∈ X.pn ++ pins, p.1 ≠ b) :
    Inv X pins σ H' { s with heap := h', gens := g', drawn := d', toks := t' } := by
  obtain ⟨m, ⟨o, es, ep, ho, r⟩, _⟩ := id I.loc
  obtain ⟨sl, hL⟩ := u.any ho I.free fun z => (hch _ z).2.1 rfl
  exact I.step (ch := ch) hch (fun b o hL hb hc e n => u.keep b o e n (fun z => (List.mem_cons.mp (I.stkSub b z)).elim hL hb) hc) (fun b o _ _ hc e n => u.any e n hc) (fun b o hc e n => u.free b o e n hc) (fun b o hc e => u.there b o e hc) u.tups u.frzs u.tbls (fun m' hm => by
    obtain ⟨o', es', ep', ho', r'⟩ := hm
    rw [ho] at ho'; cases ho'
    exact ⟨_, es', ep', hL, r'⟩) hok hg
theorem Inv.turned {t' : Nat} {it : Addr} (I : Inv X pins σ H s) (k : ∀ b o, b ≠ it → s.heap.get? b = some o → h'.get? b = some o) (hn : H it = none) (hL : it ≠ X.env.locals)
    (h1 : it ∈ X.ex ∨ X.s₀.heap.objs.size ≤ it) (h2 : ∀ x c, X.env.cells.lookup x = some c → c ≠ it) (h3 : ∀ p ∈ X.pn ++ pins, p.1 ≠ it) : Inv X pins σ H { s with heap := h', toks := t' } := by
  have nit : ∀ b u, H b = some u → b ≠ it := fun b u e z => by rw [z, hn] at e; cases e
  refine I.step (g' := s.gens) (d' := s.drawn) (ch := [it]) (fun b hb => ?_) (fun b o _ _ hc e _ => k b o (fun z => hc (by simp [z])) e) (fun b o _ _ hc e _ => ⟨o.slots, k b o (fun z => hc (by simp [z])) e⟩) (fun _ _ _ _ n => n)
    (fun b o hc e => ⟨o, k b o (fun z => hc (by simp [z])) e⟩) (fun _ _ e => e) (fun _ _ _ e => e) (fun b ps e => ⟨#[], by rw [e]; simp⟩) (fun m hm => ?_) (fun b u e => ?_) I.bare
  · have e : b = it := by simpa using hb
    subst e
    exact ⟨h1, hL, h2, h3⟩
  · obtain ⟨o, es, ep, ho, r⟩ := hm
    exact ⟨o, es, ep, k _ o (Ne.symm hL) ho, r⟩
  · refine (I.hok b u e).stay (fun c v hc q => k c v ?_ q) (fun _ q => q) fun _ _ q => q
    rcases hc with z | z
    · rw [z]; exact nit b u e
    · exact nit c _ z
theorem Inv.tok (I : Inv X pins σ H s) (t : Nat) : Inv X pins σ H { s with toks := t } := I.un (h' := s.heap) (t' := t) Un.refl I.hok
theorem Inv.kept {t' : Nat} (I : Inv X pins σ H s) (k : ∀ b u, s.heap.get? b = some u → h'.get? b = some u) : Inv X pins σ H { s with heap := h', toks := t' } := I.un (Un.kept k) (I.hok.kept k)
theorem Inv.laid {a : Addr} {o : HO} {t' : Nat} (I : Inv X pins σ H s) (k : ∀ b u, s.heap.get? b = some u → h'.get? b = some u) (hp : s.heap.objs.size ≤ a) (new : ObjOk X.prog X.w (upd H a o) h' a o) :
    Inv X pins σ (upd H a o) { s with heap := h', toks := t' } := I.un (Un.laid k hp (I.hok.fresh hp)) (I.hok.laid k hp new)
theorem Inv.write {x e : Addr} {o : HO} {t' : Nat} (I : Inv X pins σ H s) (mu : Mut (H x)) (he : e = x ∨ H e = some (.own x)) (k : ∀ b u, b ≠ e → s.heap.get? b = some u → h'.get? b = some u) (heo : ∃ u, h'.get? e = some u)
    (new : ObjOk X.prog X.w (upd H x o) h' x o) : Inv X pins σ (upd H x o) { s with heap := h', toks := t' } := I.un (Un.write mu he k heo) (I.hok.write mu he k heo new)
theorem Inv.pins_of {pins' : List (Addr × Obj)} (I : Inv X pins σ H s) (h : ∀ p ∈ pins', s.heap.get? p.1 = some p.2 ∧ H p.1 = none ∧ p.1 ≠ X.env.locals ∧ p.1 ∉ X.fs ∧ ∀ v, p.2.data ≠ .cell v) : Inv X pins' σ H s :=
  ⟨I.ok, I.os, I.bare, I.base, I.loc, I.cell, I.free, I.freeC, fun p hp => (List.mem_append.mp hp).elim (fun z => I.pin p (List.mem_append_left _ z)) (h p), I.hok, I.len⟩
theorem nodup_ix {N : List Str} (hN : N.Nodup) {i j : Nat} {x : Str} (a : N[i]? = some x) (b : N[j]? = some x) : i = j := by
  obtain ⟨h1, e1⟩ := List.getElem?_eq_some_iff.mp a
  obtain ⟨h2, e2⟩ := List.getElem?_eq_some_iff.mp b
  exact (List.getElem_inj hN).mp (e1.trans e2.symm)
theorem store_ok2 {M : Model} {A : Around} {E : Value → Shared → Prop} {i : Nat} {x : Str} {v : V} {u : Value} {Q : Unit → Shared → Prop} (I : Inv X pins σ H s) (hN : X.N.Nodup) (hi : X.N[i]? = some x) (hx : Loc X.env.scope x) (r : RelV v u)
    (h : ∀ s', Inv X pins (σ.set i (some v)) H s' → (∃ a, Heap.SameBut a s.heap s'.heap ∧ (a = X.env.locals ∨ X.env.cells.lookup x = some a)) → Q () s') (hf : X.fn x = true ∨ X.env.scope.names.lookup x = some .local := by first | exact .inl rfl | exact .inr rfl | assumption) : wpAny M A (storeName X.env x u) Q E s := by
  obtain ⟨m, hn, hl⟩ := id I.loc
  have hcls : (X.env.scope.kind == .class || (X.env.scope.kind == .module && X.env.locals != X.env.globals)) = false := by rw [I.ok.kind]; rfl
  have hiσ : i < σ.length := by rw [I.len]; exact (List.getElem?_eq_some_iff.mp hi).1
  have cne := I.cne
  have tracked : ∀ {a : Addr} {h' : Heap}, (∃ o, s.heap.get? a = some o ∧ H a = none) → Heap.SameBut a s.heap h' → HOk X.prog X.w H h' := fun {a h'} ha hs b ob e => by
    obtain ⟨_, _, hfree⟩ := ha
    refine (I.hok b ob e).stay (fun c w' hc q => (hs.2 c ?_).trans q) (fun _ q => q) fun _ _ q => q
    rintro rfl
    rcases hc with rfl | hc
    · rw [hfree] at e; cases e
    · rw [hfree] at hc; cases hc
  rcases hx with hk | hk
  · refine wpAny_storeName_local hk hn (fun h' hn' hs => ?_) hcls
    obtain ⟨oL, _, _, hoL, _⟩ := id hn
    refine h _ ⟨I.ok, I.os, I.bare, ⟨fun b o e n hb hx => ?_, fun b o e n hb hx => ?_, I.base.free, fun b o e hx => ?_, I.base.tups, I.base.frzs, I.base.tbls⟩, ⟨_, hn', fun j y v' e1 e2 e3 => ?_⟩, fun y c e => ?_, I.free, I.freeC, fun p hp => ?_, tracked ⟨oL, hoL, I.free⟩ hs, by simpa using I.len⟩ ⟨_, hs, .inl rfl⟩
    · exact (hs.2 b (Nat.ne_of_lt (Nat.lt_of_lt_of_le (Heap.lt_size e) I.ok.above))).trans (I.base.keep b o e n hb hx)
    · obtain ⟨sl, e1⟩ := I.base.slot b o e n hb hx
      exact ⟨sl, (hs.2 b (Nat.ne_of_lt (Nat.lt_of_lt_of_le (Heap.lt_size e) I.ok.above))).trans e1⟩
    · obtain ⟨o', e1⟩ := I.base.there b o e hx
      exact ⟨o', (hs.2 b (Nat.ne_of_lt (Nat.lt_of_lt_of_le (Heap.lt_size e) I.ok.above))).trans e1⟩
    · by_cases hj : j = i
      · subst hj
        rw [hi] at e1; cases e1
        rw [List.getElem?_set_self hiσ] at e2
        cases e2
        exact ⟨u, r, .inl ⟨hk, by simp⟩⟩
      · rw [List.getElem?_set_ne (Ne.symm hj)] at e2
        obtain ⟨u', r', q⟩ := hl j y v' e1 e2 e3
        refine ⟨u', r', ?_⟩
        rcases q with ⟨k, e⟩ | ⟨k, c, e, z⟩
        · refine .inl ⟨k, ?_⟩
          have : y ≠ x := fun e => hj (nodup_ix hN e1 (e ▸ hi))
          simp [this, e]
        · exact .inr ⟨k, c, e, z.sameBut hs (cne y c e)⟩
    · obtain ⟨w', z⟩ := I.cell y c e
      exact ⟨w', z.sameBut hs (cne y c e)⟩
    · obtain ⟨e, n, ne, nf, d⟩ := I.pin p hp
      exact ⟨(hs.2 p.1 ne).trans e, n, ne, nf, d⟩
  · have hfn : X.fn x = true := by
      rcases hf with z | z
      · exact z
      · rw [z] at hk; cases hk
    obtain ⟨c, hc⟩ := I.ok.has x (.inl hk)
    obtain ⟨w', z⟩ := I.cell x c hc
    refine wpAny_storeName_cell I.ok.kind hk hc z (fun h' hc' hs => ?_)
    obtain ⟨oc, hoc, hocd⟩ := id z
    refine h { s with heap := h' } ⟨I.ok, I.os, I.bare, ⟨fun b o e n hb hx => ?_, fun b o e n hb hx => ?_, I.base.free, fun b o e hx => ?_, I.base.tups, I.base.frzs, I.base.tbls⟩, ⟨m, hn.sameBut hs (Ne.symm (cne x c hc)), fun j y v' e1 e2 e3 => ?_⟩, fun y c' e => ?_, I.free, I.freeC, fun p hp => ?_, tracked ⟨oc, hoc, I.freeC x c hc⟩ hs, by simpa using I.len⟩ ⟨c, hs, .inr hc⟩
    · exact (hs.2 b (Nat.ne_of_lt (Nat.lt_of_lt_of_le (Heap.lt_size e) (I.ok.cab x c hfn hc)))).trans (I.base.keep b o e n hb hx)
    · obtain ⟨sl, e1⟩ := I.base.slot b o e n hb hx
      exact ⟨sl, (hs.2 b (Nat.ne_of_lt (Nat.lt_of_lt_of_le (Heap.lt_size e) (I.ok.cab x c hfn hc)))).trans e1⟩
    · obtain ⟨o', e1⟩ := I.base.there b o e hx
      exact ⟨o', (hs.2 b (Nat.ne_of_lt (Nat.lt_of_lt_of_le (Heap.lt_size e) (I.ok.cab x c hfn hc)))).trans e1⟩
    · by_cases hj : j = i
      · subst hj
        rw [hi] at e1; cases e1
        rw [List.getElem?_set_self hiσ] at e2
        cases e2
        exact ⟨u, r, .inr ⟨.inl hk, c, hc, hc'⟩⟩
      · rw [List.getElem?_set_ne (Ne.symm hj)] at e2
        obtain ⟨u', r', q⟩ := hl j y v' e1 e2 e3
        refine ⟨u', r', ?_⟩
        rcases q with q | ⟨k, c', e, z'⟩
        · exact .inl q
        · refine .inr ⟨k, c', e, z'.sameBut hs ?_⟩
          rintro rfl
          exact hj (nodup_ix hN e1 (I.ok.inj _ _ _ e hc ▸ hi))
    · by_cases hcc : c' = c
      · subst hcc; exact ⟨_, hc'⟩
      · obtain ⟨w2, z2⟩ := I.cell y c' e
        exact ⟨w2, z2.sameBut hs hcc⟩
    · obtain ⟨e, n, ne, nf, d⟩ := I.pin p hp
      refine ⟨(hs.2 p.1 ?_).trans e, n, ne, nf, d⟩
      intro q
      rw [q, hoc] at e
      have q' : oc = p.2 := Option.some.inj e
      exact d w' (by rw [← q']; exact hocd)
theorem store_ok {M : Model} {A : Around} {E : Value → Shared → Prop} {i : Nat} {x : Str} {v : V} {u : Value} {Q : Unit → Shared → Prop} (I : Inv X pins σ H s) (hN : X.N.Nodup) (hi : X.N[i]? = some x) (hx : Loc X.env.scope x) (r : RelV v u)
    (h : ∀ s', Inv X pins (σ.set i (some v)) H s' → Q () s') (hf : X.fn x = true ∨ X.env.scope.names.lookup x = some .local := by first | exact .inl rfl | exact .inr rfl | assumption) : wpAny M A (storeName X.env x u) Q E s :=
  store_ok2 I hN hi hx r (fun s' I' _ => h s' I') hf
theorem Inv.call' {s' : Shared} {ch : List Addr} (I : Inv X pins σ H s) (ho : s'.os = s.os) (u : Un (frs X.stack) ch H H' s.heap s'.heap) (hok : HOk X.prog X.w H' s'.heap) (hg : AllBare s'.gens)
    (hch : ∀ b ∈ ch, (b ∈ X.ex ∨ X.s₀.heap.objs.size ≤ b) ∧ b ≠ X.env.locals ∧ (∀ x c, X.env.cells.lookup x = some c → c ≠ b) ∧ ∀ p ∈ X.pn ++ pins, p.1 ≠ b) : Inv X pins σ H' s' := by
  obtain ⟨h', g', d', t', o'⟩ := s'
  have e : o' = s.os := ho
  subst e
  exact I.call (g' := g') (t' := t') (d' := d') u hok hg hch
end
abbrev XK := Value → Option Addr → Hp → Prop
abbrev St := List (Option V)
abbrev VK := V → Hp → Prop
abbrev TE := St → Hp → VK → Prop
abbrev TT := St → Hp → (Bool → Hp → Prop) → Prop
abbrev TA := St → Hp → (List V → Hp → Prop) → Prop
structure Ends where
  nx : St → Hp → Prop
  rt : VK
  bk : St → Hp → Prop := fun _ _ => False
  ct : St → Hp → Prop := fun _ _ => False
abbrev TS := Ends → St → Hp → Prop
def EP (X : Cx) (pins : List (Addr × Obj)) (σ : St) (Q : VK) (u : Value) (s' : Shared) : Prop := ∃ v H', Inv X pins σ H' s' ∧ RelV v u ∧ Q v H'
def TP (X : Cx) (pins : List (Addr × Obj)) (σ : St) (Q : Bool → Hp → Prop) (b : Bool) (s' : Shared) : Prop := ∃ H', Inv X pins σ H' s' ∧ Q b H'
def AP (X : Cx) (pins : List (Addr × Obj)) (σ : St) (Q : List V → Hp → Prop) (us : List Value) (s' : Shared) : Prop := ∃ vs H', Inv X pins σ H' s' ∧ Vals vs us ∧ Q vs H'
def SP (X : Cx) (pins : List (Addr × Obj)) (D : Ends) (f : Flow) (s' : Shared) : Prop :=
  match f with
  | .next => ∃ σ' H', Inv X pins σ' H' s' ∧ D.nx σ' H'
  | .brk => ∃ σ' H', Inv X pins σ' H' s' ∧ D.bk σ' H'
  | .cont => ∃ σ' H', Inv X pins σ' H' s' ∧ D.ct σ' H'
  | .ret u => ∃ v σ' H', Inv X pins σ' H' s' ∧ RelV v u ∧ D.rt v H'
def PE (X : Cx) (e : Expr) (t : TE) : Prop :=
  ∀ (pins : List (Addr × Obj)) (s : Shared) (σ : St) (H : Hp) (Q : VK), Inv X pins σ H s → t σ H Q → wpAny (model X.prog X.w) X.A (eval e X.env) (EP X pins σ Q) X.xe s
def PT (X : Cx) (e : Expr) (t : TT) : Prop :=
  ∀ (pins : List (Addr × Obj)) (s : Shared) (σ : St) (H : Hp) (Q : Bool → Hp → Prop), Inv X pins σ H s → t σ H Q → wpAny (model X.prog X.w) X.A (isTrue e X.env (eval e X.env)) (TP X pins σ Q) X.xe s
def PW (X : Cx) (e : Expr) (t : TT) : Prop :=
  ∀ (whole : Sem Value) (pins : List (Addr × Obj)) (s : Shared) (σ : St) (H : Hp) (Q : Bool → Hp → Prop), Inv X pins σ H s → t σ H Q → wpAny (model X.prog X.w) X.A (isTrue e X.env whole) (TP X pins σ Q) X.xe s
theorem PW.pt {X : Cx} {e : Expr} {t : TT} (h : PW X e t) : PT X e t := h _
def PA (X : Cx) (es : List Expr) (t : TA) : Prop :=
  ∀ (pos : Pos) (pins : List (Addr × Obj)) (s : Shared) (σ : St) (H : Hp) (Q : List V → Hp → Prop), Inv X pins σ H s → t σ H Q → wpAny (model X.prog X.w) X.A (spliced (backTo pos (starEach es X.env))) (AP X pins σ Q) X.xe s
def PS (X : Cx) (st : Stmt) (t : TS) : Prop :=
  ∀ (pins : List (Addr × Obj)) (s : Shared) (σ : St) (H : Hp) (D : Ends), Inv X pins σ H s → t D σ H → wpAny (model X.prog X.w) X.A (exec st X.env) (SP X pins D) X.xe s
def PSs (X : Cx) (st : List Stmt) (t : TS) : Prop :=
  ∀ (pins : List (Addr × Obj)) (s : Shared) (σ : St) (H : Hp) (D : Ends), Inv X pins σ H s → t D σ H → wpAny (model X.prog X.w) X.A (execs st X.env) (SP X pins D) X.xe s
theorem thn {α : Type} {t : Sem α} {Q Q' : α → Shared → Prop} {M : Model} {A : Around} {E : Value → Shared → Prop} {s : Shared} (h : wpAny M A t Q E s) (hQ : ∀ a s, Q a s → Q' a s) : wpAny M A t Q' E s := wpAny_mono h hQ fun _ _ x => x
end L2
namespace L2
open PySem PySem.Spec PyProof.Rows
section
variable {X : Cx}
theorem bin {a b : Expr} {ta tb : TE} (ha : PE X a ta) (hb : PE X b tb) {pins : List (Addr × Obj)} {s : Shared} {σ : St} {H : Hp} {R : V → V → Hp → Prop} (I : Inv X pins σ H s) (h : ta σ H fun x H1 => tb σ H1 fun y H2 => R x y H2)
    {α : Type} {Q : α → Shared → Prop} {f : Value → Value → Sem α}
    (hf : ∀ v u s2 x y H2, Inv X pins σ H2 s2 → RelV x v → RelV y u → R x y H2 → wpAny (model X.prog X.w) X.A (f v u) Q X.xe s2) :
    wpAny (model X.prog X.w) X.A (eval a X.env) (fun v s₁ => wpAny (model X.prog X.w) X.A (eval b X.env) (fun u s₂ => wpAny (model X.prog X.w) X.A (f v u) Q X.xe s₂) X.xe s₁) X.xe s := by
  refine thn (ha pins s σ H _ I h) fun v s1 ⟨x, H1, I1, r1, q1⟩ => ?_
  refine thn (hb pins s1 σ H1 _ I1 q1) fun u s2 ⟨y, H2, I2, r2, q2⟩ => ?_
  exact hf v u s2 x y H2 I2 r1 r2 q2
def tVar (i : Nat) : TE := fun σ H Q => ∃ v, σ[i]? = some (some v) ∧ Q v H
def tC (v : V) : TE := fun _ H Q => Q v H
theorem pe_var {i : Nat} {x : Str} {pos : Pos} (hN : X.N[i]? = some x) (hv : Vis X.env.scope x) (hd : (x == ("__debug__" : Str)) = false := by decide) (hcd : (x == ("__classdict__" : Str)) = false := by decide) : PE X (.Name x pos) (tVar i) := by
  intro pins s σ H Q I h
  obtain ⟨v, e, h⟩ := h
  obtain ⟨m, hn, hl⟩ := I.loc
  obtain ⟨u, r, l⟩ := hl i x v hN e hv
  have fin : EP X pins σ Q u s := ⟨v, H, I, r, h⟩
  rcases l with ⟨hk, hm⟩ | ⟨hk, c, hc, hcell⟩
  · exact wpAny_Name (wpAny_loadName_local I.ok.kind hk hn hm fin) hd
  · rcases hk with hk | hk
    · exact wpAny_Name (wpAny_loadName_cell I.ok.kind hk hc hcell fin) hd
    · exact wpAny_Name (wpAny_loadName_free I.ok.kind hk hc hcell fin hcd) hd
theorem pe_int {i j pos} : PE X (.Constant (.int i) j pos) (tC (.int i)) := fun _ _ _ H _ I h => wpAny_Constant_int ⟨.int i, H, I.tok _, ⟨_, rfl⟩, h⟩
theorem pe_bl {b j pos} : PE X (.Constant (.bool b) j pos) (tC (.bl b)) := fun _ _ _ H _ I h => Constant_bool ⟨.bl b, H, I, rfl, h⟩
theorem pe_str {x j pos} : PE X (.Constant (.str x) j pos) (tC (.str x)) := fun _ _ _ H _ I h => Calls.Constant_str ⟨.str x, H, I.tok _, ⟨_, rfl⟩, h⟩
def Gl (X : Cx) (x : Str) : Prop := X.env.kindOf x = some .globalImplicit
theorem ld_glob {E : Value → Shared → Prop} {pins : List (Addr × Obj)} {s : Shared} {σ : St} {H : Hp} {x : Str} {u : Value} {pos : Pos} {Q : Value → Shared → Prop} (I : Inv X pins σ H s) (hg : Gl X x) (hm : X.mg x = some u) (h : Q u s)
    (hd : (x == ("__debug__" : Str)) = false := by decide) : wpAny (model X.prog X.w) X.A (eval (.Name x pos) X.env) Q E s :=
  Calls.Name_function_global I.ok.kind hg (Calls.loadGlobal_global (by rw [I.ok.glob]; exact I.mod.glob.keeps I.bk) hm h) hd
theorem ld_blt {E : Value → Shared → Prop} {pins : List (Addr × Obj)} {s : Shared} {σ : St} {H : Hp} {x : Str} {u : Value} {pos : Pos} {Q : Value → Shared → Prop} (I : Inv X pins σ H s) (hg : Gl X x) (hm : X.mg x = none) (hv : bootBuiltins x = some u) (h : Q u s)
    (hn : x ≠ "__name__" := by decide) (hd : (x == ("__debug__" : Str)) = false := by decide) : wpAny (model X.prog X.w) X.A (eval (.Name x pos) X.env) Q E s := by
  obtain ⟨mb, h1, h2⟩ := I.mod.blt
  exact Calls.Name_function_global I.ok.kind hg (Calls.loadGlobal_builtin (by rw [I.ok.glob]; exact I.mod.glob.keeps I.bk) hm (by rw [I.ok.blt]; exact h1.keeps I.bk) ((h2 x hn).trans hv) h) hd
theorem pe_glob {x : Str} {v : V} {u : Value} {pos : Pos} (hg : Gl X x) (hm : X.mg x = some u) (r : RelV v u) (hd : (x == ("__debug__" : Str)) = false := by decide) : PE X (.Name x pos) (tC v) :=
  fun _ _ _ H _ I h => ld_glob I hg hm ⟨v, H, I, r, h⟩ hd
theorem pe_bltn {x : Str} {v : V} {u : Value} {pos : Pos} (hg : Gl X x) (hm : X.mg x = none) (hv : bootBuiltins x = some u) (r : RelV v u) (hn : x ≠ "__name__" := by decide) (hd : (x == ("__debug__" : Str)) = false := by decide) : PE X (.Name x pos) (tC v) :=
  fun _ _ _ H _ I h => ld_blt I hg hm hv ⟨v, H, I, r, h⟩ hn hd
variable {a b : Expr} {ta tb : TE} {pos : Pos}
def PC (X : Cx) (op : CmpOp) (a b : Expr) (t : TE) : Prop :=
  ∀ (pins : List (Addr × Obj)) (s : Shared) (σ : St) (H : Hp) (Q : VK), Inv X pins σ H s → t σ H Q →
    wpAny (model X.prog X.w) X.A (eval a X.env) (fun v s₁ => wpAny (model X.prog X.w) X.A (eval b X.env) (fun u s₂ => wpAny (model X.prog X.w) X.A (compareOp op v u) (EP X pins σ Q) X.xe s₂) X.xe s₁) X.xe s
theorem nobehind (b : Expr) {op : CmpOp} (h : op ≠ .In) (h2 : op ≠ .NotIn) : behindInMarks op b = false := by
  have e1 : (op == CmpOp.In) = false := by cases op <;> first | rfl | exact absurd rfl h
  have e2 : (op == CmpOp.NotIn) = false := by cases op <;> first | rfl | exact absurd rfl h2
  cases b <;> simp [behindInMarks, e1, e2]
def tB (t : TE) : TT := fun σ H Q => t σ H fun x H1 => ∃ c, x = .bl c ∧ Q c H1
theorem pt_cmp {op : CmpOp} {t : TE} (h : PC X op a b t) (h1 : behindInMarks op b = false := by first | exact nobehind _ (by decide) (by decide) | rfl) : PT X (.Compare a [op] [b] pos) (tB t) := by
  intro pins s σ H Q I hw
  refine wpAny_isTrue_Compare1 (thn (h pins s σ H _ I hw) fun v s1 h1 => thn h1 fun u s2 h2 => thn h2 fun c s3 ⟨x, H1, I1, r1, q1⟩ => ?_) h1
  obtain ⟨d, rfl, q⟩ := q1
  cases r1
  exact wpAny_truthy_bool ⟨H1, I1, q⟩
theorem pt_val {e : Expr} {t : TE} (h : PE X e t) (he : ∀ whole, isTrue e X.env whole = (do let v ← whole; standAt e.pos; holding [v] (truthy v)) := by intro _; rfl) : PT X e (tB t) := by
  intro pins s σ H Q I hw
  refine isTrue_plain (thn (h pins s σ H _ I hw) fun v s1 ⟨x, H1, I1, r1, q1⟩ => ?_) (he _)
  obtain ⟨d, rfl, q⟩ := q1
  cases r1
  exact wpAny_truthy_bool ⟨H1, I1, q⟩
variable {tA tB' : TT} {rest : List Expr}
def tAnd (t u : TT) : TT := fun σ H Q => t σ H fun c H1 => if c = true then u σ H1 Q else Q false H1
def tOr (t u : TT) : TT := fun σ H Q => t σ H fun c H1 => if c = true then Q true H1 else u σ H1 Q
def tNot (t : TT) : TT := fun σ H Q => t σ H fun c H1 => Q (!c) H1
theorem pw_and1 (ha : PT X a tA) : PW X (.BoolOp .And [a] pos) tA := by
  intro wh pins s σ H Q I h
  refine isTrue_and (thn (ha pins s σ H Q I h) fun c s1 e => ?_)
  cases c with
  | true => exact isTrue_and_nil e
  | false => exact e
theorem pw_or1 (ha : PT X a tA) : PW X (.BoolOp .Or [a] pos) tA := by
  intro wh pins s σ H Q I h
  refine isTrue_or (thn (ha pins s σ H Q I h) fun c s1 e => ?_)
  cases c with
  | false => exact isTrue_or_nil e
  | true => exact e
theorem pw_and (ha : PT X a tA) (hb : PW X (.BoolOp .And (b :: rest) pos) tB') : PW X (.BoolOp .And (a :: b :: rest) pos) (tAnd tA tB') := by
  intro wh pins s σ H Q I h
  refine isTrue_and (thn (ha pins s σ H _ I h) fun c s1 ⟨H1, I1, q1⟩ => ?_)
  cases c with
  | true => exact hb wh pins s1 σ H1 Q I1 q1
  | false => exact ⟨H1, I1, q1⟩
theorem pw_or (ha : PT X a tA) (hb : PW X (.BoolOp .Or (b :: rest) pos) tB') : PW X (.BoolOp .Or (a :: b :: rest) pos) (tOr tA tB') := by
  intro wh pins s σ H Q I h
  refine isTrue_or (thn (ha pins s σ H _ I h) fun c s1 ⟨H1, I1, q1⟩ => ?_)
  cases c with
  | true => exact ⟨H1, I1, q1⟩
  | false => exact hb wh pins s1 σ H1 Q I1 q1
theorem pt_not (ha : PT X a tA) : PT X (.UnaryOp .Not a pos) (tNot tA) := by
  intro pins s σ H Q I h
  exact isTrue_not (ha pins s σ H (fun c H1 => Q (!c) H1) I h)
def tAndV (ta tb : TE) : TE := fun σ H Q => ta σ H fun x H1 => ∃ c, x = .bl c ∧ if c = true then tb σ H1 Q else Q (.bl false) H1
def tOrV (ta tb : TE) : TE := fun σ H Q => ta σ H fun x H1 => ∃ c, x = .bl c ∧ if c = true then Q (.bl true) H1 else tb σ H1 Q
def tNotV (ta : TE) : TE := fun σ H Q => ta σ H fun x H1 => ∃ c, x = .bl c ∧ Q (.bl (!c)) H1
theorem pe_one {op} {t : TE} (h : PE X a t) : PE X (.BoolOp op [a] pos) t := fun pins s σ H Q I hw => BoolOp_one (h pins s σ H Q I hw)
theorem pe_and (ha : PE X a ta) (hb : PE X (.BoolOp .And (b :: rest) pos) tb) : PE X (.BoolOp .And (a :: b :: rest) pos) (tAndV ta tb) := by
  intro pins s σ H Q I h
  refine BoolOp_and (thn (ha pins s σ H _ I h) fun v s1 ⟨x, H1, I1, r1, q1⟩ => ?_)
  obtain ⟨c, rfl, q1⟩ := q1
  cases r1
  refine wpAny_truthy_bool ?_
  cases c with
  | true => exact hb pins s1 σ H1 Q I1 q1
  | false => exact ⟨.bl false, H1, I1, rfl, q1⟩
theorem pe_or (ha : PE X a ta) (hb : PE X (.BoolOp .Or (b :: rest) pos) tb) : PE X (.BoolOp .Or (a :: b :: rest) pos) (tOrV ta tb) := by
  intro pins s σ H Q I h
  refine BoolOp_or (thn (ha pins s σ H _ I h) fun v s1 ⟨x, H1, I1, r1, q1⟩ => ?_)
  obtain ⟨c, rfl, q1⟩ := q1
  cases r1
  refine wpAny_truthy_bool ?_
  cases c with
  | false => exact hb pins s1 σ H1 Q I1 q1
  | true => exact ⟨.bl true, H1, I1, rfl, q1⟩
theorem pe_not (ha : PE X a ta) : PE X (.UnaryOp .Not a pos) (tNotV ta) := by
  intro pins s σ H Q I h
  refine UnaryOp_ (thn (ha pins s σ H _ I h) fun v s1 ⟨x, H1, I1, r1, q1⟩ => ?_)
  obtain ⟨c, rfl, q1⟩ := q1
  cases r1
  exact not_of (wpAny_truthy_bool ⟨.bl (!c), H1, I1, rfl, q1⟩)
def tIf (t : TT) (ta tb : TE) : TE := fun σ H Q => t σ H fun c H1 => if c = true then ta σ H1 Q else tb σ H1 Q
end
end L2
namespace L2
open PySem PySem.Spec PyProof.Rows
def SqL (K : PySem.W.Frag) (H : Hp) (a : Addr) (xs : List V) : Prop :=
  Rd H a (.lst xs) ∨
    ∃ (o : Obj) (its : Array Value) (n : Nat), K.lookup a = some o ∧ o.cls = .type "list" ∧ o.dict = none ∧ o.data = .seq its n ∧ its.size ≤ sizeLine ∧ Vals xs its.toList
def SqT (K : PySem.W.Frag) (H : Hp) (a : Addr) (xs : List V) : Prop :=
  Rd H a (.tup xs) ∨
    ∃ (o : Obj) (its : Array Value) (n : Nat), K.lookup a = some o ∧ o.cls = .type "tuple" ∧ o.data = .seq its n ∧ its.size ≤ sizeLine ∧ Vals xs its.toList
def absV : Value → Option V
  | .none => some .non
  | .bool b => some (.bl b)
  | .int i _ => some (.int i)
  | .str x _ => some (.str x)
  | .bytes b _ => some (.byt b)
  | .float b _ => some (.flt b)
  | .ref a => some (.ref a)
  | .type n => some (.ty n)
  | _ => none
theorem RelV.abs {x : V} {u : Value} (r : RelV x u) : absV u = some x := by
  cases x with
  | non => cases r; rfl
  | bl _ => cases r; rfl
  | int _ => obtain ⟨t, rfl⟩ := r; rfl
  | str _ => obtain ⟨t, rfl⟩ := r; rfl
  | byt _ => obtain ⟨t, rfl⟩ := r; rfl
  | flt _ => obtain ⟨t, rfl⟩ := r; rfl
  | ref _ => cases r; rfl
  | ty _ => cases r; rfl
theorem RelV.inj {x y : V} {u : Value} (r : RelV x u) (q : RelV y u) : x = y := Option.some.inj (r.abs.symm.trans q.abs)
theorem Vals.inj : ∀ {xs ys : List V} {us : List Value}, Vals xs us → Vals ys us → xs = ys
  | _, _, _, .nil, .nil => rfl
  | _, _, _, .cons r t, .cons r' t' => by rw [r.inj r', Vals.inj t t']
section
variable {X : Cx} {pins : List (Addr × Obj)} {σ : St} {H : Hp} {s : Shared} {a : Addr} {xs ys : List V}
theorem SqL.of {K : PySem.W.Frag} (h : H a = some (.lst xs)) : SqL K H a xs := .inl (.inl h)
theorem SqT.of {K : PySem.W.Frag} (h : H a = some (.tup xs)) : SqT K H a xs := .inl (.inl h)
theorem Inv.list (I : Inv X pins σ H s) (h : SqL X.K H a xs) : ∃ its : List Value, Vals xs its ∧ PlainL s.heap a its.toArray ∧ xs.length ≤ sizeLine := by
  rcases h with h | ⟨o, its, n, hk, hc, hd, hs, hz, r⟩
  · obtain ⟨z, its, n, r, e⟩ := h.ok I.hok
    exact ⟨its, r, ⟨_, n, e, rfl, rfl, rfl⟩, z⟩
  · refine ⟨its.toList, r, ⟨o, n, I.kIn a o hk, hc, hd, by simpa using hs⟩, ?_⟩
    have e := r.length
    simp only [Array.length_toList] at e
    omega
theorem Inv.tuple (I : Inv X pins σ H s) (h : SqT X.K H a xs) : ∃ its : List Value, Vals xs its ∧ IsTup s.heap a its.toArray ∧ xs.length ≤ sizeLine := by
  rcases h with h | ⟨o, its, n, hk, hc, hs, hz, r⟩
  · obtain ⟨z, its, r, p⟩ := h.ok I.hok
    exact ⟨its, r, p, z⟩
  · refine ⟨its.toList, r, ⟨o, I.kIn a o hk, hc, n, by simpa using hs⟩, ?_⟩
    have e := r.length
    simp only [Array.length_toList] at e
    omega
theorem Inv.list_inj (I : Inv X pins σ H s) (h : SqL X.K H a xs) (h' : SqL X.K H a ys) : xs = ys := by
  obtain ⟨its, r, ⟨o, n, e, _, _, d⟩, _⟩ := I.list h
  obtain ⟨its', r', ⟨o', n', e', _, _, d'⟩, _⟩ := I.list h'
  rw [e] at e'; cases e'
  rw [d] at d'
  injection d' with d1 _
  have : its = its' := by simpa using congrArg Array.toList d1
  subst this
  exact r.inj r'
theorem Inv.tuple_inj (I : Inv X pins σ H s) (h : SqT X.K H a xs) (h' : SqT X.K H a ys) : xs = ys := by
  obtain ⟨its, r, ⟨o, e, _, n, d⟩, _⟩ := I.tuple h
  obtain ⟨its', r', ⟨o', e', _, n', d'⟩, _⟩ := I.tuple h'
  rw [e] at e'; cases e'
  rw [d] at d'
  injection d' with d1 _
  have : its = its' := by simpa using congrArg Array.toList d1
  subst this
  exact r.inj r'
end
abbrev Cx.wish (X : Cx) (E : Value → Shared → Prop) : Cx := { X with xe := E }
abbrev Cx.nox (X : Cx) : Cx := X.wish fun _ _ => False
theorem Cx.Ok.wish {X : Cx} (ok : X.Ok) (E : Value → Shared → Prop) : (X.wish E).Ok :=
  ⟨ok.mod, ok.kind, ok.glob, ok.blt, ok.above, ok.inj, ok.has, ok.cab, ok.hd, ok.frames, ok.stk, ok.exf, ok.bs, ok.bsz, ok.noex, ok.exfs, ok.funs, ok.frf⟩
theorem Cx.Ok.unwish {X : Cx} {E : Value → Shared → Prop} (ok : (X.wish E).Ok) : X.Ok :=
  ⟨ok.mod, ok.kind, ok.glob, ok.blt, ok.above, ok.inj, ok.has, ok.cab, ok.hd, ok.frames, ok.stk, ok.exf, ok.bs, ok.bsz, ok.noex, ok.exfs, ok.funs, ok.frf⟩
section
variable {X : Cx} {pins : List (Addr × Obj)} {σ : St} {H : Hp} {s : Shared} {E : Value → Shared → Prop}
theorem Inv.wish (I : Inv X pins σ H s) (E : Value → Shared → Prop) : Inv (X.wish E) pins σ H s := ⟨I.ok.wish E, I.os, I.bare, I.base, I.loc, I.cell, I.free, I.freeC, I.pin, I.hok, I.len⟩
theorem Inv.unwish (I : Inv (X.wish E) pins σ H s) : Inv X pins σ H s := ⟨I.ok.unwish, I.os, I.bare, I.base, I.loc, I.cell, I.free, I.freeC, I.pin, I.hok, I.len⟩
theorem SP.unwish {D : Ends} {f : Flow} {s' : Shared} (h : SP (X.wish E) pins D f s') : SP X pins D f s' := by
  cases f with
  | next => obtain ⟨σ', H', I, q⟩ := h; exact ⟨σ', H', I.unwish, q⟩
  | brk => obtain ⟨σ', H', I, q⟩ := h; exact ⟨σ', H', I.unwish, q⟩
  | cont => obtain ⟨σ', H', I, q⟩ := h; exact ⟨σ', H', I.unwish, q⟩
  | ret u => obtain ⟨v, σ', H', I, r, q⟩ := h; exact ⟨v, σ', H', I.unwish, r, q⟩
theorem PT.nox {e : Expr} {t : TT} (h : PT X.nox e t) : PT X e t := fun pins s σ H Q I hw =>
  wpAny_mono (h pins s σ H Q (I.wish _) hw) (fun _ _ ⟨H', I', q⟩ => ⟨H', I'.unwish, q⟩) fun _ _ z => False.elim z
theorem PSs.nox {st : List Stmt} {t : TS} (h : PSs X.nox st t) : PSs X st t := fun pins s σ H D I hw =>
  wpAny_mono (h pins s σ H D (I.wish _) hw) (fun _ _ q => q.unwish) fun _ _ z => False.elim z
end
section
variable {X : Cx} {st : Stmt} {rest : List Stmt} {t u : TS} {e : Expr} {te : TE} {pos : Pos}
def tNext : TS := fun D σ H => D.nx σ H
def tSeq (t u : TS) : TS := fun D σ H => t { D with nx := u D } σ H
theorem pss_nil : PSs X [] tNext := fun _ _ σ H _ I h => wpAny_execs_nil ⟨σ, H, I, h⟩
theorem pss_cons (h1 : PS X st t) (h2 : PSs X rest u) : PSs X (st :: rest) (tSeq t u) := by
  intro pins s σ H D I h
  refine wpAny_execs_cons (thn (h1 pins s σ H { D with nx := u D } I h) fun f s1 q => ?_)
  cases f with
  | next =>
    obtain ⟨σ', H', I', q⟩ := q
    exact h2 pins s1 σ' H' D I' q
  | ret v => exact q
  | brk => exact q
  | cont => exact q
theorem pss_one (h1 : PS X st t) : PSs X [st] t := by
  intro pins s σ H D I h
  refine wpAny_execs_cons (thn (h1 pins s σ H D I h) fun f s1 q => ?_)
  cases f with
  | next => exact wpAny_execs_nil q
  | ret v => exact q
  | brk => exact q
  | cont => exact q
def tBreak : TS := fun D σ H => D.bk σ H
def tCont : TS := fun D σ H => D.ct σ H
theorem Inv.quiet {pins : List (Addr × Obj)} {σ : St} {H : Hp} {s : Shared} (I : Inv X pins σ H s) : interactive X.env = false := by simp [interactive, I.ok.kind]
def tDrop (te : TE) : TS := fun D σ H => te σ H fun _ H1 => D.nx σ H1
theorem ps_expr (he : PE X e te) (hs : swapsWith e none pos.line X.env = pure false := by rfl) : PS X (.Expr e pos) (tDrop te) := by
  intro pins s σ H D I h
  exact wpAny_Expr_any (thn (he pins s σ H _ I h) fun v s1 ⟨x, H1, I1, r1, q1⟩ => ⟨σ, H1, I1, q1⟩) I.quiet hs
def tRet (te : TE) : TS := fun D σ H => te σ H D.rt
theorem ps_ret (he : PE X e te) : PS X (.Return (some e) pos) (tRet te) := by
  intro pins s σ H D I h
  exact wpAny_Return_some (thn (he pins s σ H _ I h) fun v s1 ⟨x, H1, I1, r1, q1⟩ => ⟨x, σ, H1, I1, r1, q1⟩)
def tRetN : TS := fun D _ H => D.rt .non H
def tIfS (c : TT) (t u : TS) : TS := fun D σ H => c σ H fun b H1 => if b = true then t D σ H1 else u D σ H1
theorem ps_if {c : Expr} {a b : List Stmt} {tc : TT} (hc : PT X c tc) (ha : PSs X a t) (hb : PSs X b u) : PS X (.If c a b pos) (tIfS tc t u) := by
  intro pins s σ H D I h
  refine wpAny_If (thn (hc pins s σ H _ I h) fun d s1 ⟨H1, I1, q1⟩ => ?_)
  cases d with
  | true => exact ha pins s1 σ H1 D I1 q1
  | false => exact hb pins s1 σ H1 D I1 q1
def tNever : TS := fun _ _ _ => False
theorem pss_never {sts : List Stmt} : PSs X sts tNever := fun _ _ _ _ _ _ h => h.elim
end
abbrev TG := V → St → Hp → (St → Hp → Prop) → Prop
abbrev TGs := List V → St → Hp → (St → Hp → Prop) → Prop
def PG (X : Cx) (target : Expr) (t : TG) : Prop :=
  ∀ (pins : List (Addr × Obj)) (s : Shared) (σ : St) (H : Hp) (v : V) (u : Value) (Q : St → Hp → Prop), Inv X pins σ H s → RelV v u → t v σ H Q →
    wpAny (model X.prog X.w) X.A (assign target X.env u) (fun _ s' => ∃ σ' H', Inv X pins σ' H' s' ∧ Q σ' H') X.xe s
def PGs (X : Cx) (ts : List Expr) (t : TGs) : Prop :=
  ∀ (pins : List (Addr × Obj)) (s : Shared) (σ : St) (H : Hp) (vs : List V) (us : List Value) (Q : St → Hp → Prop), Inv X pins σ H s → Vals vs us → t vs σ H Q →
    wpAny (model X.prog X.w) X.A (assignInOrder ((assignEach ts X.env).map (·.2)) us) (fun _ s' => ∃ σ' H', Inv X pins σ' H' s' ∧ Q σ' H') X.xe s
abbrev TSet := V → V → V → Hp → (Hp → Prop) → Prop
def PSet (X : Cx) (t : TSet) : Prop :=
  ∀ (pins : List (Addr × Obj)) (s : Shared) (σ : St) (H : Hp) (o i v : V) (ov iv u : Value) (Q : Hp → Prop), Inv X pins σ H s → RelV o ov → RelV i iv → RelV v u → t o i v H Q →
    wpAny (model X.prog X.w) X.A (setItem ov iv u) (fun _ s' => ∃ H', Inv X pins σ H' s' ∧ Q H') X.xe s
abbrev TIp := V → V → Hp → VK → Prop
def PIp (X : Cx) (op : Operator) (t : TIp) : Prop :=
  ∀ (pins : List (Addr × Obj)) (s : Shared) (σ : St) (H : Hp) (x y : V) (v u : Value) (Q : VK), Inv X pins σ H s → RelV x v → RelV y u → t x y H Q →
    wpAny (model X.prog X.w) X.A (inplaceOp op v u) (EP X pins σ Q) X.xe s
section
variable {X : Cx} {pos : Pos}
def gName (i : Nat) : TG := fun v σ H Q => Q (σ.set i (some v)) H
theorem pg_name {i : Nat} {x : Str} (hN : X.N.Nodup) (hi : X.N[i]? = some x) (hx : Loc X.env.scope x) (hf : X.fn x = true ∨ X.env.scope.names.lookup x = some .local := by first | exact .inl rfl | exact .inr rfl | assumption) : PG X (.Name x pos) (gName i) := by
  intro pins s σ H v u Q I r h
  exact wpAny_assign_Name (store_ok I hN hi hx r (fun s' I' => ⟨_, H, I', h⟩) hf)
def gNil : TGs := fun vs σ H Q => vs = [] ∧ Q σ H
def gCons (t : TG) (u : TGs) : TGs := fun vs σ H Q => ∃ v r, vs = v :: r ∧ t v σ H fun σ' H' => u r σ' H' Q
theorem pgs_nil : PGs X [] gNil := by
  intro pins s σ H vs us Q I r h
  obtain ⟨e, h⟩ := h
  subst e
  cases r
  exact assignInOrder_nil ⟨σ, H, I, h⟩
theorem pgs_cons {e : Expr} {es : List Expr} {t : TG} {u : TGs} (h1 : PG X e t) (h2 : PGs X es u)
    (hs : (assignEach (e :: es) X.env).map (·.2) = assign e X.env :: (assignEach es X.env).map (·.2) := by rfl) : PGs X (e :: es) (gCons t u) := by
  intro pins s σ H vs us Q I r h
  obtain ⟨v, vr, e1, h⟩ := h
  subst e1
  cases r with
  | cons r rr =>
    rw [hs]
    refine assignInOrder_cons (thn (h1 pins s σ H _ _ _ I r h) fun _ s1 ⟨σ1, H1, I1, q1⟩ => ?_)
    exact h2 pins s1 σ1 H1 _ _ Q I1 rr q1
def gTup (K : PySem.W.Frag) (n : Nat) (t : TGs) : TG := fun v σ H Q => ∃ a xs, v = .ref a ∧ SqT K H a xs ∧ xs.length = n ∧ t xs σ H Q
theorem pg_tup {es : List Expr} {k : Nat} {t : TGs} {n : Nat} (hc : X.calm = true) (h : PGs X es t)
    (hn : (assignEach es X.env).length = n := by rfl) (hst : (assignEach es X.env).findIdx? (·.1) = none := by rfl) : PG X (.Tuple es k pos) (gTup X.K n t) := by
  intro pins s σ H v u Q I r hw
  obtain ⟨a, xs, e1, hq, hl, hw⟩ := hw
  subst e1
  cases r
  obtain ⟨its, rv, ht, hz⟩ := I.tuple hq
  refine assign_Tuple_tuple (I.ok.hd hc) ht (by simp [hn, ← hl, rv.length]) hst fun h' hx => ?_
  have I1 : Inv X pins σ H { s with heap := h' } := I.kept (t' := s.toks) fun b o e => hx b o (Nat.ne_of_lt (Heap.lt_size e)) e
  exact h pins _ σ H xs _ Q I1 (by simpa using rv) hw
def gSub (to ti : TE) (t : TSet) : TG := fun v σ H Q => to σ H fun o H1 => ti σ H1 fun i H2 => t o i v H2 fun H3 => Q σ H3
theorem pg_sub {o i : Expr} {to ti : TE} {t : TSet} (ho : PE X o to) (hi : PE X i ti) (hs : PSet X t)
    (ha : ∀ v, assign (.Subscript o i pos) X.env v = (do
      let ov ← holding [v] (eval o X.env)
      let iv ← holding [v, ov] (eval i X.env)
      standAt pos
      holding [v, ov, iv] (setItem ov iv v)
      release [v, ov, iv] []) := by intro _; rfl) : PG X (.Subscript o i pos) (gSub to ti t) := by
  intro pins s σ H v u Q I r h
  rw [ha]
  refine wpAny_bind (wpAny_holding (thn (ho pins s σ H _ I h) fun ov s1 ⟨x, H1, I1, r1, q1⟩ => ?_))
  refine wpAny_bind (wpAny_holding (thn (hi pins s1 σ H1 _ I1 q1) fun iv s2 ⟨y, H2, I2, r2, q2⟩ => ?_))
  refine wpAny_bind (wpAny_standAt (wpAny_bind (wpAny_holding (thn (hs pins s2 σ H2 x y v ov iv u _ I2 r1 r2 r q2) fun _ s3 ⟨H3, I3, q3⟩ => ?_))))
  exact wpAny_release ⟨σ, H3, I3, q3⟩
def tAsg (te : TE) (g : TG) : TS := fun D σ H => te σ H fun x H1 => g x σ H1 D.nx
theorem ps_asg {tg e : Expr} {te : TE} {g : TG} (he : PE X e te) (hg : PG X tg g) (hs : swapsWithSole [tg] e pos.line X.env = pure false := by rfl) (hw : swappedStores [tg] e X.env = pure none := by rfl)
    (h1 : (assignEach [tg] X.env).map (·.2) = [assign tg X.env] := by rfl) : PS X (.Assign [tg] e pos) (tAsg te g) := by
  intro pins s σ H D I h
  refine wpAny_Assign_stores (thn (he pins s σ H _ I h) fun v s1 ⟨x, H1, I1, r1, q1⟩ => ?_) hs hw
  rw [h1]
  exact thn (hg pins s1 σ H1 x v _ I1 r1 q1) fun _ s2 q => q
theorem ps_set {i : Nat} {x : Str} {e : Expr} {te : TE} {pos' : Pos} (hN : X.N.Nodup) (hi : X.N[i]? = some x) (hx : Loc X.env.scope x) (he : PE X e te) (hs : swapsWith e (some (.Name x pos')) pos.line X.env = pure false := by rfl) (hf : X.fn x = true ∨ X.env.scope.names.lookup x = some .local := by first | exact .inl rfl | exact .inr rfl | assumption) :
    PS X (.Assign [.Name x pos'] e pos) (tAsg te (gName i)) := by
  intro pins s σ H D I h
  refine wpAny_Assign_Name (thn (he pins s σ H _ I h) fun v s1 ⟨y, H1, I1, r1, q1⟩ => ?_) hs
  exact store_ok I1 hN hi hx r1 (fun s2 I2 => ⟨_, H1, I2, q1⟩) hf
def tAug (i : Nat) (te : TE) (ti : TIp) : TS := fun D σ H => ∃ x, σ[i]? = some (some x) ∧ te σ H fun y H1 => ti x y H1 fun z H2 => D.nx (σ.set i (some z)) H2
theorem ps_aug {i : Nat} {x : Str} {e : Expr} {te : TE} {op : Operator} {ti : TIp} {pos' : Pos} (hN : X.N.Nodup) (hi : X.N[i]? = some x) (hx : Loc X.env.scope x) (he : PE X e te) (ho : PIp X op ti) (hf : X.fn x = true ∨ X.env.scope.names.lookup x = some .local := by first | exact .inl rfl | exact .inr rfl | assumption) :
    PS X (.AugAssign (.Name x pos') op e pos) (tAug i te ti) := by
  intro pins s σ H D I h
  obtain ⟨v, e1, h⟩ := h
  obtain ⟨m, hn, hl⟩ := I.loc
  have vis : Vis X.env.scope x := by rcases hx with k | k; exact .inl k; exact .inr (.inl k)
  obtain ⟨u, r, l⟩ := hl i x v hi e1 vis
  refine wpAny_AugAssign_Name ?_
  have go : wpAny (model X.prog X.w) X.A (eval e X.env) (fun w s₂ => wpAny (model X.prog X.w) X.A (inplaceOp op u w) (fun r s₃ => wpAny (model X.prog X.w) X.A (storeName X.env x r) (fun _ => SP X pins D .next) X.xe s₃) X.xe s₂) X.xe s := by
    refine thn (he pins s σ H _ I h) fun w s1 ⟨y, H1, I1, r1, q1⟩ => ?_
    refine thn (ho pins s1 σ H1 v y u w _ I1 r r1 q1) fun z s2 ⟨zv, H2, I2, r2, q2⟩ => ?_
    exact store_ok I2 hN hi hx r2 (fun s3 I3 => ⟨_, H2, I3, q2⟩) hf
  rcases l with ⟨hk, hm⟩ | ⟨hk, c, hc, hcell⟩
  · exact wpAny_loadName_local I.ok.kind hk hn hm go
  · rcases hk with hk | hk
    · exact wpAny_loadName_cell I.ok.kind hk hc hcell go
    · rcases hx with k | k
      · have : X.env.scope.names.lookup x = some .free := hk
        rw [k] at this; cases this
      · have : X.env.scope.names.lookup x = some .free := hk
        rw [k] at this; cases this
def tAugS (to ti te : TE) (tget : V → V → Hp → VK → Prop) (tip : TIp) (tset : TSet) : TS := fun D σ H => to σ H fun o H1 => ti σ H1 fun i H2 => tget o i H2 fun x H3 => te σ H3 fun y H4 => tip x y H4 fun z H5 => tset o i z H5 fun H6 => D.nx σ H6
def PGet (X : Cx) (t : V → V → Hp → VK → Prop) : Prop :=
  ∀ (pins : List (Addr × Obj)) (s : Shared) (σ : St) (H : Hp) (o i : V) (ov iv : Value) (Q : VK), Inv X pins σ H s → RelV o ov → RelV i iv → t o i H Q →
    wpAny (model X.prog X.w) X.A (getItem ov iv) (EP X pins σ Q) X.xe s
theorem ps_augS {o i e : Expr} {to ti te : TE} {tget : V → V → Hp → VK → Prop} {tip : TIp} {tset : TSet} {op : Operator} {tpos : Pos} (ho : PE X o to) (hi : PE X i ti) (hg : PGet X tget) (he : PE X e te) (hp : PIp X op tip) (hs : PSet X tset)
    (ha : ∀ ov iv new, augStore i ov iv new = (do holding [new, ov, iv] (setItem ov iv new); release [new, ov, iv] []; pure .next) := by intros; rfl) : PS X (.AugAssign (.Subscript o i tpos) op e pos) (tAugS to ti te tget tip tset) := by
  intro pins s σ H D I h
  refine wpAny_AugAssign_SubscriptAny (thn (ho pins s σ H _ I h) fun ov s1 ⟨x1, H1, I1, r1, q1⟩ => ?_) ha
  refine thn (hi pins s1 σ H1 _ I1 q1) fun iv s2 ⟨x2, H2, I2, r2, q2⟩ => ?_
  refine thn (hg pins s2 σ H2 x1 x2 ov iv _ I2 r1 r2 q2) fun old s3 ⟨x3, H3, I3, r3, q3⟩ => ?_
  refine thn (he pins s3 σ H3 _ I3 q3) fun v s4 ⟨x4, H4, I4, r4, q4⟩ => ?_
  refine thn (hp pins s4 σ H4 x3 x4 old v _ I4 r3 r4 q4) fun new s5 ⟨x5, H5, I5, r5, q5⟩ => ?_
  exact thn (hs pins s5 σ H5 x1 x2 x5 ov iv new _ I5 r1 r2 r5 q5) fun _ s6 ⟨H6, I6, q6⟩ => ⟨σ, H6, I6, q6⟩
def ipI (f : Int → Int → Int) : TIp := fun x y H Q => ∃ i j, x = .int i ∧ y = .int j ∧ Q (.int (f i j)) H
theorem ip_add : PIp X .Add (ipI fun i j => i + j) := by
  intro pins s σ H x y v u Q I r1 r2 h
  obtain ⟨i, j, e1, e2, q⟩ := h
  subst e1; subst e2
  obtain ⟨t, rfl⟩ := r1
  obtain ⟨t', rfl⟩ := r2
  exact iadd_int ⟨.int _, H, I.tok _, ⟨_, rfl⟩, q⟩
theorem ip_sub : PIp X .Sub (ipI fun i j => i - j) := by
  intro pins s σ H x y v u Q I r1 r2 h
  obtain ⟨i, j, e1, e2, q⟩ := h
  subst e1; subst e2
  obtain ⟨t, rfl⟩ := r1
  obtain ⟨t', rfl⟩ := r2
  exact isub_int ⟨.int _, H, I.tok _, ⟨_, rfl⟩, q⟩
end
section
variable {X : Cx} {pos : Pos}
def tWhile (c : TT) (tb : TS) : TS := fun D σ H => ∃ W : Nat → St → Hp → Prop, (∃ m, W m σ H) ∧ ∀ m σ H, W m σ H →
  c σ H fun b H1 => if b = true then ∃ N : St → Hp → Prop, (∀ σ' H', N σ' H' → ∃ m', m' < m ∧ W m' σ' H') ∧ tb { D with nx := N, ct := N, bk := D.nx } σ H1 else D.nx σ H1
theorem ps_while {c : Expr} {body : List Stmt} {tc : TT} {tb : TS} (hp : PassesOwn (model X.prog X.w) X.A X.env X.xe) (hc : PT X c tc) (hb : PSs X body tb) : PS X (.While c body [] pos) (tWhile tc tb) := by
  intro pins s σ H D I h
  obtain ⟨W, ⟨m0, w0⟩, turn⟩ := h
  refine wpAny_While (codeAny_whileLoop (fun n s' => ∃ σ' H', Inv X pins σ' H' s' ∧ W n σ' H') ?_ m0 ⟨σ, H, I, w0⟩)
  rintro n s1 ⟨σ1, H1, I1, w1⟩
  refine wpAny_passesOwn hp (thn (hc pins s1 σ1 H1 _ I1 (turn n σ1 H1 w1)) fun b s2 ⟨H2, I2, q2⟩ => ?_)
  cases b with
  | true =>
    obtain ⟨N, hN, q2⟩ := q2
    rw [if_pos rfl]
    refine wpAny_passesOwn hp (thn (hb pins s2 σ1 H2 _ I2 q2) fun f s3 q3 => ?_)
    cases f with
    | next =>
      obtain ⟨σ3, H3, I3, n3⟩ := q3
      obtain ⟨m', hm, w3⟩ := hN σ3 H3 n3
      exact ⟨m', hm, σ3, H3, I3, w3⟩
    | cont =>
      obtain ⟨σ3, H3, I3, n3⟩ := q3
      obtain ⟨m', hm, w3⟩ := hN σ3 H3 n3
      exact ⟨m', hm, σ3, H3, I3, w3⟩
    | brk => exact q3
    | ret v => exact q3
  | false =>
    rw [if_neg Bool.false_ne_true]
    exact wpAny_execs_nil ⟨σ1, H2, I2, q2⟩
end
structure It where
  go : Nat → Hp → Prop
  yld : Nat → Hp → V → Hp → Prop
  stop : Nat → Hp → Prop
def FpOk (X : Cx) (pins : List (Addr × Obj)) (H : Hp) (b : Addr) : Prop :=
  H b = none ∧ b ≠ X.env.locals ∧ b ∉ X.fs ∧ (b ∈ X.ex ∨ X.s₀.heap.objs.size ≤ b) ∧ (∀ x c, X.env.cells.lookup x = some c → c ≠ b) ∧ ∀ p ∈ X.pn ++ pins, p.1 ≠ b
theorem Inv.fpOk {X : Cx} {pins : List (Addr × Obj)} {σ : St} {H H' : Hp} {s : Shared} {b : Addr} (I : Inv X pins σ H s) (hb : s.heap.objs.size ≤ b) (hn : H' b = none) : FpOk X pins H' b := by
  refine ⟨hn, Nat.ne_of_gt (Nat.lt_of_lt_of_le I.lt hb), I.nofs hb, .inr (Nat.le_trans I.sz hb), fun x c e z => ?_, fun p hp z => ?_⟩
  · obtain ⟨v, q⟩ := I.cell x c e
    exact absurd (Nat.lt_of_lt_of_le q.lt (by rw [z]; exact hb)) (Nat.lt_irrefl _)
  · exact absurd (Nat.lt_of_lt_of_le (Heap.lt_size (I.pin p hp).1) (by rw [z]; exact hb)) (Nat.lt_irrefl _)
structure Turn (P : Program) (w : World) (K : PySem.W.Frag) (tg : Expr) (J : It) (fp : List Addr) (it : Addr) (tn : Nat → Heap → Prop) : Prop where
  mem : it ∈ fp
  obj : ∀ i h, tn i h → ∀ b ∈ fp, ∃ o, h.get? b = some o ∧ ∀ v, o.data ≠ .cell v
  keep : ∀ i h h', tn i h → (∀ b ∈ fp, ∀ o, h.get? b = some o → h'.get? b = some o) → tn i h'
  item : ∀ (X : Cx), X.prog = P → X.w = w → X.K = K → X.calm = true → ∀ (i : Nat) (pins : List (Addr × Obj)) (s : Shared) (σ : St) (H : Hp) (E : Value → Shared → Prop), Inv X pins σ H s → (∀ b ∈ fp, FpOk X pins H b) → tn i s.heap → J.go i H →
    wpAny (model P w) X.A (pyNext (.ref it)) (fun r s1 => ∃ u, r = some u ∧
      wpAny (model P w) X.A (letOwnedTupleGo tg (.ref it) u) (fun _ s2 => ∃ x H', Inv X pins σ H' s2 ∧ RelV x u ∧ J.yld i H x H' ∧ tn (i + 1) s2.heap ∧ ∀ b ∈ fp, H' b = none) E s1) E s
  done : ∀ (X : Cx), X.prog = P → X.w = w → X.K = K → X.calm = true → ∀ (i : Nat) (pins : List (Addr × Obj)) (s : Shared) (σ : St) (H : Hp) (E : Value → Shared → Prop), Inv X pins σ H s → (∀ b ∈ fp, FpOk X pins H b) → tn i s.heap → J.stop i H →
    wpAny (model P w) X.A (pyNext (.ref it)) (fun r s1 => r = none ∧ Inv X pins σ H s1) E s
  self : ∀ (A : Around) (i : Nat) (s : Shared) (Q : Value → Shared → Prop) (E : Value → Shared → Prop), tn i s.heap → Q (.ref it) s → wpAny (model P w) A (pyIter (.ref it)) Q E s
abbrev TI := St → Hp → (It → Hp → Prop) → Prop
def PIE (X : Cx) (pins : List (Addr × Obj)) (σ : St) (tg : Expr) (R : It → Hp → Prop) (itv : Value) (s2 : Shared) : Prop :=
  ∃ (it : Addr) (fp : List Addr) (tn : Nat → Heap → Prop) (J : It) (H' : Hp), itv = .ref it ∧ Inv X pins σ H' s2 ∧ Turn X.prog X.w X.K tg J fp it tn ∧ tn 0 s2.heap ∧ (∀ b ∈ fp, FpOk X pins H' b) ∧ R J H'
def PI (X : Cx) (tg iter : Expr) (wi : TI) : Prop :=
  ∀ (pins : List (Addr × Obj)) (s : Shared) (σ : St) (H : Hp) (R : It → Hp → Prop), Inv X pins σ H s → wi σ H R →
    wpAny (model X.prog X.w) X.A (eval iter X.env) (fun v s1 => wpAny (model X.prog X.w) X.A (pyIter v) (PIE X pins σ tg R) X.xe s1) X.xe s
theorem go_of {M : Model} {A : Around} {E : Value → Shared → Prop} {s : Shared} {tg : Expr} {it : Addr} {u : Value} {o : Obj} {n : String} {vs : Array Value} {Q : Unit → Shared → Prop} (ho : s.heap.get? it = some o) (hc : o.cls = .type n) (hd : o.data = .fields vs)
    (hn : ["enumerate", "zip", "dict_itemiterator", "dict_reverseitemiterator", "odict_iterator", "itertools.zip_longest", "itertools.pairwise"].contains n = false) (hQ : Q () s) : wpAny M A (letOwnedTupleGo tg (.ref it) u) Q E s := by
  unfold letOwnedTupleGo
  cases tg <;> first
    | exact wpAny_pure hQ
    | (cases u <;> first
        | exact wpAny_pure hQ
        | (refine wpAny_bind (wpAny_load ho ?_)
           rw [hc, hd]
           show wpAny M A (if (["enumerate", "zip", "dict_itemiterator", "dict_reverseitemiterator", "odict_iterator", "itertools.zip_longest", "itertools.pairwise"].contains n && vs[0]? == some (rawInt _)) = true then _ else _) Q E s
           rw [if_neg (by intro h; rw [hn, Bool.false_and] at h; cases h)]
           exact wpAny_pure hQ))
def Itl (K : PySem.W.Frag) (a : Addr) : It :=
  ⟨fun i H => ∃ xs x, SqL K H a xs ∧ xs[i]? = some x, fun i H x H' => H' = H ∧ ∀ xs, SqL K H a xs → xs[i]? = some x, fun i H => ∃ xs, SqL K H a xs ∧ xs.length ≤ i⟩
def Itt (K : PySem.W.Frag) (a : Addr) : It :=
  ⟨fun i H => ∃ xs x, SqT K H a xs ∧ xs[i]? = some x, fun i H x H' => H' = H ∧ ∀ xs, SqT K H a xs → xs[i]? = some x, fun i H => ∃ xs, SqT K H a xs ∧ xs.length ≤ i⟩
def Itr (lo : Int) (n : Nat) : It := ⟨fun i _ => i < n, fun i H x H' => H' = H ∧ x = .int (lo + i), fun i _ => n ≤ i⟩
theorem turn_list {P : Program} {w : World} {K : PySem.W.Frag} {tg : Expr} (a it : Addr) : Turn P w K tg (Itl K a) [it] it (fun i h => h.IsListIter it a i) where
  mem := by simp
  obj := fun i h st b hb => by
    have e : b = it := by simpa using hb
    subst e
    obtain ⟨o, e, c, d⟩ := st
    exact ⟨o, e, fun v z => by rw [d] at z; cases z⟩
  keep := fun i h h' st k => st.at fun o e => k it (by simp) o e
  item := by
    intro X hP hw hK hc i pins s σ H E I hf st hg
    subst hP hw hK
    obtain ⟨xs, x, hq, hx⟩ := hg
    obtain ⟨its, rv, p, hz⟩ := I.list hq
    obtain ⟨u, hu, ru⟩ := rv.get hx
    obtain ⟨f0, f1, f2, f3, f4, f5⟩ := hf it (by simp)
    refine wpAny_pyNext_list_item st p.isList (x := u) (by simpa using hu) fun h' st' sb => ?_
    have I1 : Inv X pins σ H { s with heap := h' } := I.turned (t' := s.toks) (fun b o hb e => (sb.2 b hb).trans e) f0 f1 f3 f4 f5
    obtain ⟨o, e, c, d⟩ := id st'
    exact ⟨u, rfl, go_of (s := { s with heap := h' }) e c d (by decide) ⟨x, H, I1, ru, ⟨rfl, fun ys hy => by rw [I.list_inj hy hq]; exact hx⟩, st', fun b hb => (hf b hb).1⟩⟩
  done := by
    intro X hP hw hK hc i pins s σ H E I hf st hg
    subst hP hw hK
    obtain ⟨xs, hq, hx⟩ := hg
    obtain ⟨its, rv, p, hz⟩ := I.list hq
    obtain ⟨f0, f1, f2, f3, f4, f5⟩ := hf it (by simp)
    have hl := rv.length
    exact wpAny_pyNext_list_end (I.ok.hd hc) st p.isList (by simp; omega) fun h' eb => ⟨rfl, I.turned (t' := s.toks) (fun b o hb e => eb b o hb e) f0 f1 f3 f4 f5⟩
  self := fun _ _ _ _ _ st h => wpAny_pyIter_listiter st h
theorem turn_range {P : Program} {w : World} {K : PySem.W.Frag} {tg : Expr} (it : Addr) (lo : Int) (n : Nat) : Turn P w K tg (Itr lo n) [it] it (fun i h => IsRangeIter h it (lo + (i : Nat) * 1) ((n : Int) - (i : Nat)) 1) where
  mem := by simp
  obj := fun i h st b hb => by
    have e : b = it := by simpa using hb
    subst e
    exact ⟨_, st, fun v z => by
      have z' : Data.fields _ = Data.cell v := z
      cases z'⟩
  keep := fun i h h' st k => k it (by simp) _ st
  item := by
    intro X hP hw hK hc i pins s σ H E I hf st hg
    subst hP hw hK
    obtain ⟨f0, f1, f2, f3, f4, f5⟩ := hf it (by simp)
    have W := Walks.range (prog := X.prog) (w := X.w) (I.ok.hd hc) it lo 1 n
    refine W.item i s _ _ hg st fun v h' tk hv st' kk => ?_
    obtain ⟨t, rfl⟩ := hv
    have I1 : Inv X pins σ H { s with heap := h', toks := tk } := I.turned (fun b o hb e => kk b o (by simpa using hb) e) f0 f1 f3 f4 f5
    refine ⟨_, rfl, go_of (s := { s with heap := h', toks := tk }) (n := "range_iterator") st' rfl rfl (by decide) ⟨.int (lo + i), H, I1, ⟨t, ?_⟩, ⟨rfl, rfl⟩, st', fun b hb => (hf b hb).1⟩⟩
    rw [Int.mul_one]
  done := by
    intro X hP hw hK hc i pins s σ H E I hf st hg
    subst hP hw hK
    obtain ⟨f0, f1, f2, f3, f4, f5⟩ := hf it (by simp)
    exact wpAny_pyNext_range_end (I.ok.hd hc) st (by have : n ≤ i := hg; omega) fun h' eb => ⟨rfl, I.turned (t' := s.toks) (fun b o hb e => eb b o hb e) f0 f1 f3 f4 f5⟩
  self := fun _ _ _ _ _ st h => wpAny_pyIter_rangeiter st h
end L2
namespace L2
open PySem PySem.Spec PyProof.Rows
section
variable {X : Cx} {tg : Expr}
def iList (K : PySem.W.Frag) (tl : TE) : TI := fun σ H R => tl σ H fun x H1 => ∃ a, x = .ref a ∧ (∃ xs, SqL K H1 a xs) ∧ R (Itl K a) H1
def iTup (K : PySem.W.Frag) (tl : TE) : TI := fun σ H R => tl σ H fun x H1 => ∃ a, x = .ref a ∧ (∃ xs, SqT K H1 a xs) ∧ R (Itt K a) H1
theorem pi_list {l : Expr} {tl : TE} (hl : PE X l tl) : PI X tg l (iList X.K tl) := by
  intro pins s σ H R I h
  refine thn (hl pins s σ H _ I h) fun v s1 ⟨x, H1, I1, r1, q1⟩ => ?_
  obtain ⟨a, e, ⟨xs, hq⟩, q⟩ := q1
  subst e
  cases r1
  obtain ⟨its, rv, p, hz⟩ := I1.list hq
  refine wpAny_pyIter_list p.isList ?_
  refine ⟨s1.heap.objs.size, [s1.heap.objs.size], _, _, H1, rfl, I1.kept (t' := s1.toks) fun b o e => Heap.get?_push_of_some _ e, turn_list a _, ⟨_, Heap.get?_push_size _ rfl, rfl, rfl⟩, fun b hb => ?_, q⟩
  have e : b = s1.heap.objs.size := by simpa using hb
  subst e
  exact I1.fpOk (Nat.le_refl _) (I1.hok.fresh (Nat.le_refl _))
theorem range_it {pins : List (Addr × Obj)} {σ : St} {H : Hp} {s : Shared} {R : It → Hp → Prop} {E : Value → Shared → Prop} {lo hi : Int} {t u v : Tok} {tk : Nat} (I : Inv X pins σ H s) (h1 : -(2 ^ 62) ≤ lo) (h2 : lo < 2 ^ 62) (h3 : -(2 ^ 62) ≤ hi) (h4 : hi < 2 ^ 62)
    (q : R (Itr lo (hi - lo).toNat) H) : wpAny (model X.prog X.w) X.A (pyIter (.ref s.heap.objs.size)) (PIE X pins σ tg R) E { s with heap := s.heap.push { cls := .type "range", data := .fields #[.int lo t, .int hi u, .int 1 v] }, toks := tk } := by
  refine wpAny_pyIter_range (IsRange.new ..) (small_one h1 h2 h3 h4) ?_
  have I1 : Inv X pins σ H { s with heap := s.heap.push { cls := .type "range", data := .fields #[.int lo t, .int hi u, .int 1 v] }, toks := tk } := I.kept fun b o e => Heap.get?_push_of_some _ e
  refine ⟨(s.heap.push { cls := .type "range", data := .fields #[.int lo t, .int hi u, .int 1 v] }).objs.size, [(s.heap.push { cls := .type "range", data := .fields #[.int lo t, .int hi u, .int 1 v] }).objs.size], _, _, H, rfl,
    I1.kept (t' := tk) fun b o e => Heap.get?_push_of_some _ e, turn_range _ lo (hi - lo).toNat, ?_, fun b hb => ?_, q⟩
  · have e1 : lo + ((0 : Nat) : Int) * 1 = lo := by simp
    have e2 : (((hi - lo).toNat : Nat) : Int) - ((0 : Nat) : Int) = Builtin.Range.rangeSize lo hi 1 := by rw [rangeSize_one]; split <;> omega
    show IsRangeIter _ _ (lo + ((0 : Nat) : Int) * 1) ((((hi - lo).toNat : Nat) : Int) - ((0 : Nat) : Int)) 1
    rw [e1, e2]
    exact Heap.get?_push_size _ rfl
  · have e : b = (s.heap.push { cls := .type "range", data := .fields #[.int lo t, .int hi u, .int 1 v] }).objs.size := by simpa using hb
    subst e
    exact I1.fpOk (Nat.le_refl _) (I1.hok.fresh (Nat.le_refl _))
def iRng1 (ta : TA) : TI := fun σ H R => ta σ H fun vs H1 => ∃ j : Int, vs = [.int j] ∧ -(2 ^ 62) ≤ j ∧ j < 2 ^ 62 ∧ R (Itr 0 j.toNat) H1
def iRng2 (ta : TA) : TI := fun σ H R => ta σ H fun vs H1 => ∃ i j : Int, vs = [.int i, .int j] ∧ (-(2 ^ 62) ≤ i ∧ i < 2 ^ 62 ∧ -(2 ^ 62) ≤ j ∧ j < 2 ^ 62) ∧ R (Itr i (j - i).toNat) H1
theorem pi_range1 {a : Expr} {ta : TA} {p pos : Pos} (hg : Gl X "range") (hm : X.mg "range" = none) (ha : PA X [a] ta) (hs : starEach [a] X.env = [(false, eval a X.env)] := by rfl) : PI X tg (.Call (.Name "range" p) [a] [] pos) (iRng1 ta) := by
  intro pins s σ H R I h
  refine Call_ (ld_blt I hg hm boot_range (PyProof.Rows.callWith_type1 (thn (ha pos pins s σ H _ I h) fun us s1 ⟨vs, H1, I1, r1, q1⟩ => ?_) hs rfl))
  obtain ⟨j, e, q1, q2, q⟩ := q1
  subst e
  cases r1 with
  | cons r rr =>
    cases rr
    obtain ⟨t, rfl⟩ := r
    exact call_range_1 (range_it I1 (by omega) (by omega) q1 q2 (by simpa using q))
def tFor (wi : TI) (g : TG) (tb : TS) : TS := fun D σ H => wi σ H fun J H1 => ∃ W : Nat → Nat → St → Hp → Prop, (∃ m, W 0 m σ H1) ∧ ∀ i m σ H, W i m σ H →
  (J.stop i H ∧ D.nx σ H) ∨ (J.go i H ∧ ∃ N : St → Hp → Prop, (∀ σ' H', N σ' H' → ∃ m', m' < m ∧ W (i + 1) m' σ' H') ∧ ∀ x H', J.yld i H x H' → g x σ H' fun σ2 H2 => tb { D with nx := N, ct := N, bk := D.nx } σ2 H2)
def pinsAt (fp : List Addr) (h : Heap) : List (Addr × Obj) := fp.filterMap fun b => (h.get? b).map fun o => (b, o)
theorem mem_pinsAt {fp : List Addr} {h : Heap} {b : Addr} {o : Obj} (hb : b ∈ fp) (e : h.get? b = some o) : (b, o) ∈ pinsAt fp h := List.mem_filterMap.mpr ⟨b, hb, by rw [e]; rfl⟩
theorem of_pinsAt {fp : List Addr} {h : Heap} {p : Addr × Obj} (hp : p ∈ pinsAt fp h) : p.1 ∈ fp ∧ h.get? p.1 = some p.2 := by
  obtain ⟨b, hb, e⟩ := List.mem_filterMap.mp hp
  cases q : h.get? b with
  | none => rw [q] at e; cases e
  | some o =>
    rw [q] at e
    have e' : (b, o) = p := Option.some.inj e
    subst e'
    exact ⟨hb, q⟩
theorem Inv.pinned {pins : List (Addr × Obj)} {σ : St} {H : Hp} {s : Shared} {fp : List Addr} (I : Inv X pins σ H s) (hf : ∀ b ∈ fp, FpOk X pins H b) (ho : ∀ b ∈ fp, ∃ o, s.heap.get? b = some o ∧ ∀ v, o.data ≠ .cell v) : Inv X (pins ++ pinsAt fp s.heap) σ H s :=
  I.pins_of fun p hp => (List.mem_append.mp hp).elim (fun z => I.pin p (List.mem_append_right _ z)) fun z => by
    obtain ⟨hb, e⟩ := of_pinsAt z
    obtain ⟨f0, f1, f2, _⟩ := hf p.1 hb
    obtain ⟨o, e', d⟩ := ho p.1 hb
    rw [e] at e'; cases e'
    exact ⟨e, f0, f1, f2, d⟩
theorem Inv.unpinned {pins pl : List (Addr × Obj)} {σ : St} {H : Hp} {s : Shared} (I : Inv X (pins ++ pl) σ H s) : Inv X pins σ H s := I.pins_of fun p hp => I.pin p (List.mem_append_right _ (List.mem_append_left _ hp))
theorem ps_for {iter : Expr} {body : List Stmt} {wi : TI} {g : TG} {tb : TS} {pos : Pos} (hp : PassesOwn (model X.prog X.w) X.A X.env X.xe) (hc : X.calm = true) (hi : PI X tg iter wi) (hg : PG X tg g) (hb : PSs X body tb)
    (hs : ∀ x, foldedSetIterable iter X.env x = pure x := by intro _; rfl) : PS X (.For tg iter body [] pos) (tFor wi g tb) := by
  intro pins s σ H D I h
  refine wpAny_For (thn (hi pins s σ H _ I h) fun v s1 h1 => thn h1 fun itv s2 h2 => ?_) hs
  obtain ⟨it, fp, tn, J, H2, e, I2, T, st2, f2, W, ⟨m0, w0⟩, turn⟩ := h2
  subst e
  -- what stays true of the iterator's objects through the loop
  have stat : ∀ {H' : Hp}, (∀ b ∈ fp, H' b = none) → ∀ b ∈ fp, FpOk X pins H' b := fun hn b hb => ⟨hn b hb, (f2 b hb).2⟩
  refine codeAny_forLoop_any (fun n s' => ∃ i σ' H', Inv X pins σ' H' s' ∧ tn i s'.heap ∧ (∀ b ∈ fp, H' b = none) ∧ W i n σ' H') ?_ m0 ⟨0, σ, H2, I2, st2, fun b hb => (f2 b hb).1, w0⟩
  rintro n s3 ⟨i, σ3, H3, I3, st3, fr3, w3⟩
  rcases turn i n σ3 H3 w3 with ⟨stop, qn⟩ | ⟨go, N, hN, step⟩
  · refine wpAny_passesOwn hp (thn (T.done X rfl rfl rfl hc i pins s3 σ3 H3 X.xe I3 (stat fr3) st3 stop) fun r s4 ⟨hr, I4⟩ => ?_)
    subst hr
    exact wpAny_execs_nil ⟨σ3, H3, I4, qn⟩
  · refine wpAny_passesOwn hp (thn (T.item X rfl rfl rfl hc i pins s3 σ3 H3 X.xe I3 (stat fr3) st3 go) fun r s4 ⟨u, hr, h4⟩ => ?_)
    subst hr
    refine wpAny_passesOwn hp (thn h4 fun _ s5 ⟨x, H5, I5, r5, y5, st5, fr5⟩ => ?_)
    have I5' := I5.pinned (stat fr5) (T.obj _ _ st5)
    refine wpAny_passesOwn hp (thn (hg _ s5 σ3 H5 x u _ I5' r5 (step x H5 y5)) fun _ s6 ⟨σ6, H6, I6, q6⟩ => ?_)
    refine wpAny_passesOwn hp (thn (hb _ s6 σ6 H6 _ I6 q6) fun f s7 q7 => ?_)
    have again : ∀ {σ7 : St} {H7 : Hp}, Inv X (pins ++ pinsAt fp s5.heap) σ7 H7 s7 → N σ7 H7 → ∃ m, m < n ∧ ∃ i σ' H', Inv X pins σ' H' s7 ∧ tn i s7.heap ∧ (∀ b ∈ fp, H' b = none) ∧ W i m σ' H' := fun {σ7 H7} I7 n7 => by
      obtain ⟨m', hm, w7⟩ := hN σ7 H7 n7
      refine ⟨m', hm, i + 1, σ7, H7, I7.unpinned, T.keep _ _ _ st5 fun b hb o e => (I7.pin (b, o) (List.mem_append_right _ (List.mem_append_right _ (mem_pinsAt hb e)))).1, fun b hb => ?_, w7⟩
      obtain ⟨o, e, d⟩ := T.obj _ _ st5 b hb
      exact (I7.pin (b, o) (List.mem_append_right _ (List.mem_append_right _ (mem_pinsAt hb e)))).2.1
    cases f with
    | next => obtain ⟨σ7, H7, I7, n7⟩ := q7; exact again I7 n7
    | cont => obtain ⟨σ7, H7, I7, n7⟩ := q7; exact again I7 n7
    | brk => obtain ⟨σ7, H7, I7, q7⟩ := q7; exact ⟨σ7, H7, I7.unpinned, q7⟩
    | ret v => obtain ⟨x7, σ7, H7, I7, r7, q7⟩ := q7; exact ⟨x7, σ7, H7, I7.unpinned, r7, q7⟩
end
theorem for_list {K : PySem.W.Frag} {a : Addr} {xs : List V} {g : TG} {tb : TS} {D : Ends} {σ : St} {H : Hp} (Pv : Nat → St → Hp → Prop) (h0 : Pv 0 σ H) (hl : ∀ i σ H, i ≤ xs.length → Pv i σ H → SqL K H a xs)
    (hs : ∀ i x σ H, xs[i]? = some x → Pv i σ H → g x σ H fun σ2 H2 => tb { D with nx := Pv (i + 1), ct := Pv (i + 1), bk := D.nx } σ2 H2) (hd : ∀ σ H, Pv xs.length σ H → D.nx σ H) :
    ∃ W : Nat → Nat → St → Hp → Prop, (∃ m, W 0 m σ H) ∧ ∀ i m σ H, W i m σ H →
      ((Itl K a).stop i H ∧ D.nx σ H) ∨ ((Itl K a).go i H ∧ ∃ N : St → Hp → Prop, (∀ σ' H', N σ' H' → ∃ m', m' < m ∧ W (i + 1) m' σ' H') ∧ ∀ x H', (Itl K a).yld i H x H' → g x σ H' fun σ2 H2 => tb { D with nx := N, ct := N, bk := D.nx } σ2 H2) := by
  refine ⟨fun i m σ H => m = xs.length - i ∧ i ≤ xs.length ∧ Pv i σ H, ⟨xs.length, by simp, Nat.zero_le _, h0⟩, ?_⟩
  rintro i m σ H ⟨rfl, hi, p⟩
  have q := hl i σ H hi p
  by_cases hlt : i < xs.length
  · refine .inr ⟨⟨xs, xs[i], q, by simp [hlt]⟩, Pv (i + 1), fun σ' H' p' => ⟨xs.length - (i + 1), by omega, rfl, hlt, p'⟩, fun x H' y => ?_⟩
    obtain ⟨e, y⟩ := y
    subst e
    exact hs i x σ _ (y xs q) p
  · have e : i = xs.length := by omega
    subst e
    exact .inl ⟨⟨xs, q, Nat.le_refl _⟩, hd σ H p⟩
theorem for_range {lo : Int} {n : Nat} {g : TG} {tb : TS} {D : Ends} {σ : St} {H : Hp} (Pv : Nat → St → Hp → Prop) (h0 : Pv 0 σ H)
    (hs : ∀ i σ H, i < n → Pv i σ H → g (.int (lo + i)) σ H fun σ2 H2 => tb { D with nx := Pv (i + 1), ct := Pv (i + 1), bk := D.nx } σ2 H2) (hd : ∀ σ H, Pv n σ H → D.nx σ H) :
    ∃ W : Nat → Nat → St → Hp → Prop, (∃ m, W 0 m σ H) ∧ ∀ i m σ H, W i m σ H →
      ((Itr lo n).stop i H ∧ D.nx σ H) ∨ ((Itr lo n).go i H ∧ ∃ N : St → Hp → Prop, (∀ σ' H', N σ' H' → ∃ m', m' < m ∧ W (i + 1) m' σ' H') ∧ ∀ x H', (Itr lo n).yld i H x H' → g x σ H' fun σ2 H2 => tb { D with nx := N, ct := N, bk := D.nx } σ2 H2) := by
  refine ⟨fun i m σ H => m = n - i ∧ i ≤ n ∧ Pv i σ H, ⟨n, by simp, Nat.zero_le _, h0⟩, ?_⟩
  rintro i m σ H ⟨rfl, hi, p⟩
  by_cases hlt : i < n
  · refine .inr ⟨hlt, Pv (i + 1), fun σ' H' p' => ⟨n - (i + 1), by omega, rfl, hlt, p'⟩, fun x H' y => ?_⟩
    obtain ⟨e, y⟩ := y
    subst e y
    exact hs i σ _ hlt p
  · have e : i = n := by omega
    subst e
    exact .inl ⟨Nat.le_refl _, hd σ H p⟩
end L2
namespace L2
open PySem PySem.Spec PyProof.Rows
abbrev R2 := V → V → Hp → VK → Prop
def OpR (X : Cx) (f : Value → Value → Sem Value) (r : R2) : Prop :=
  ∀ (pins : List (Addr × Obj)) (s : Shared) (σ : St) (H : Hp) (x y : V) (v u : Value) (Q : VK), Inv X pins σ H s → RelV x v → RelV y u → r x y H Q →
    wpAny (model X.prog X.w) X.A (f v u) (EP X pins σ Q) X.xe s
def UnR (X : Cx) (f : Value → Sem Value) (r : V → Hp → VK → Prop) : Prop :=
  ∀ (pins : List (Addr × Obj)) (s : Shared) (σ : St) (H : Hp) (x : V) (v : Value) (Q : VK), Inv X pins σ H s → RelV x v → r x H Q →
    wpAny (model X.prog X.w) X.A (f v) (EP X pins σ Q) X.xe s
def CallR (X : Cx) (f : Value) (r : List V → Hp → VK → Prop) : Prop :=
  ∀ (pins : List (Addr × Obj)) (s : Shared) (σ : St) (H : Hp) (xs : List V) (us : List Value) (Q : VK), Inv X pins σ H s → Vals xs us → r xs H Q →
    wpAny (model X.prog X.w) X.A (call f us) (EP X pins σ Q) X.xe s
def tOp (r : R2) (ta tb : TE) : TE := fun σ H Q => ta σ H fun x H1 => tb σ H1 fun y H2 => r x y H2 Q
def tUn (r : V → Hp → VK → Prop) (ta : TE) : TE := fun σ H Q => ta σ H fun x H1 => r x H1 Q
def rI (C : Int → Int → Prop) (g : Int → Int → V) : R2 := fun x y H Q => ∃ i j, x = .int i ∧ y = .int j ∧ C i j ∧ Q (g i j) H
def rI0 (g : Int → Int → V) : R2 := fun x y H Q => ∃ i j, x = .int i ∧ y = .int j ∧ Q (g i j) H
def rU (g : Int → V) : V → Hp → VK → Prop := fun x H Q => ∃ i, x = .int i ∧ Q (g i) H
section
variable {X : Cx} {a b c : Expr} {ta tb tc : TE} {pos : Pos}
theorem binT (ha : PE X a ta) (hb : PE X b tb) {pins : List (Addr × Obj)} {s : Shared} {σ : St} {H : Hp} {R : V → V → Hp → Prop} (I : Inv X pins σ H s)
    (h : ta σ H fun x H1 => tb σ H1 fun y H2 => R x y H2) {Q : Value → Shared → Prop} {f : Value → Value → Sem Value}
    (hf : ∀ v u s2 x y H2, Inv X pins σ H2 s2 → RelV x v → RelV y u → R x y H2 → wpAny (model X.prog X.w) X.A (f v u) Q X.xe s2) :
    wpAny (model X.prog X.w) X.A (eval a X.env) (fun v s₁ => wpAny (model X.prog X.w) X.A (eval b X.env) (fun u s₂ => wpAny (model X.prog X.w) X.A (f v u) Q X.xe s₂) X.xe s₁) X.xe s := by
  refine thn (ha pins s σ H _ I h) fun v s1 ⟨x, H1, I1, r1, q1⟩ => ?_
  refine thn (hb pins s1 σ H1 _ I1 q1) fun u s2 ⟨y, H2, I2, r2, q2⟩ => ?_
  exact hf v u s2 x y H2 I2 r1 r2 q2
theorem pe_op {op : Operator} {r : R2} (ho : OpR X (binaryOp op) r) (ha : PE X a ta) (hb : PE X b tb) : PE X (.BinOp a op b pos) (tOp r ta tb) := by
  intro pins s σ H Q I h
  exact wpAny_BinOp (binT ha hb I h fun v u s2 x y H2 I2 rx ry q => ho pins s2 σ H2 x y v u Q I2 rx ry q)
theorem pe_un {op : UnaryOp} {r : V → Hp → VK → Prop} (ho : UnR X (unaryOp op) r) (ha : PE X a ta) : PE X (.UnaryOp op a pos) (tUn r ta) := by
  intro pins s σ H Q I h
  exact UnaryOp_ (thn (ha pins s σ H _ I h) fun v s1 ⟨x, H1, I1, r1, q1⟩ => ho pins s1 σ H1 x v Q I1 r1 q1)
theorem opI {f : Value → Value → Sem Value} {C : Int → Int → Prop} {g : Int → Int → Int}
    (rule : ∀ (i j : Int) (t u : Tok) (s : Shared) (Q : Value → Shared → Prop) (E : Value → Shared → Prop), C i j → Q (.int (g i j) s.toks) { s with toks := s.toks + 1 } → wpAny (model X.prog X.w) X.A (f (.int i t) (.int j u)) Q E s) :
    OpR X f (rI C fun i j => .int (g i j)) := by
  intro pins s σ H x y v u Q I rx ry h
  obtain ⟨i, j, rfl, rfl, hc, q⟩ := h
  obtain ⟨t, rfl⟩ := rx
  obtain ⟨t', rfl⟩ := ry
  exact rule i j t t' s _ _ hc ⟨.int (g i j), H, I.tok _, ⟨_, rfl⟩, q⟩
theorem opI0 {f : Value → Value → Sem Value} {g : Int → Int → Int}
    (rule : ∀ (i j : Int) (t u : Tok) (s : Shared) (Q : Value → Shared → Prop) (E : Value → Shared → Prop), Q (.int (g i j) s.toks) { s with toks := s.toks + 1 } → wpAny (model X.prog X.w) X.A (f (.int i t) (.int j u)) Q E s) :
    OpR X f (rI0 fun i j => .int (g i j)) := by
  intro pins s σ H x y v u Q I rx ry h
  obtain ⟨i, j, rfl, rfl, q⟩ := h
  obtain ⟨t, rfl⟩ := rx
  obtain ⟨t', rfl⟩ := ry
  exact rule i j t t' s _ _ ⟨.int (g i j), H, I.tok _, ⟨_, rfl⟩, q⟩
theorem opB0 {f : Value → Value → Sem Value} {g : Int → Int → Bool}
    (rule : ∀ (i j : Int) (t u : Tok) (s : Shared) (Q : Value → Shared → Prop) (E : Value → Shared → Prop), Q (.bool (g i j)) s → wpAny (model X.prog X.w) X.A (f (.int i t) (.int j u)) Q E s) :
    OpR X f (rI0 fun i j => .bl (g i j)) := by
  intro pins s σ H x y v u Q I rx ry h
  obtain ⟨i, j, rfl, rfl, q⟩ := h
  obtain ⟨t, rfl⟩ := rx
  obtain ⟨t', rfl⟩ := ry
  exact rule i j t t' s _ _ ⟨.bl (g i j), H, I, rfl, q⟩
def CDiv (i j : Int) : Prop := 0 < j ∧ j < 1073741824
def CPow (i j : Int) : Prop := 0 ≤ j ∧ j ≤ 1000000 ∧ i.natAbs < 2 ^ 64
def CMul (i j : Int) : Prop := (-(2 ^ 64) < i ∧ i < 2 ^ 64) ∨ (-(2 ^ 64) < j ∧ j < 2 ^ 64)
theorem CMul.ok {i j : Int} (h : CMul i j) : IntMulOk i j := by
  rcases h with ⟨h1, h2⟩ | ⟨h1, h2⟩
  · exact .of_left (intBits_le_64 h1 h2)
  · exact .of_right (intBits_le_64 h1 h2)
theorem op_add : OpR X (binaryOp .Add) (rI0 fun i j => .int (i + j)) := opI0 fun _ _ _ _ _ _ _ q => add_int q
theorem op_sub : OpR X (binaryOp .Sub) (rI0 fun i j => .int (i - j)) := opI0 fun _ _ _ _ _ _ _ q => sub_int q
theorem op_mul : OpR X (binaryOp .Mult) (rI CMul fun i j => .int (i * j)) := opI fun _ _ _ _ _ _ _ hc q => mul_int q hc.ok
theorem op_fdiv : OpR X (binaryOp .FloorDiv) (rI CDiv fun i j => .int (i / j)) := opI fun i j _ _ _ _ _ hc q => by
  have h1 : (0 : Int) < j := hc.1
  have h2 : j < 1073741824 := hc.2
  exact floordiv_int (by omega) (by rw [Int.fdiv_eq_ediv_of_nonneg i (by omega)]; exact q) (.inl (PyProof.noPylong_small (by omega)))
theorem op_mod : OpR X (binaryOp .Mod) (rI (fun _ j => 0 < j) fun i j => .int (i % j)) := opI fun i j _ _ _ _ _ hc q => by
  have h1 : (0 : Int) < j := hc
  exact mod_int' (by omega) (by rw [Int.fmod_eq_emod_of_nonneg i (by omega)]; exact q)
theorem op_pow : OpR X (binaryOp .Pow) (rI CPow fun i j => .int (i ^ j.toNat)) := opI fun _ _ _ _ _ _ _ hc q => pow_int_small hc.1 hc.2.1 hc.2.2 q
theorem unI {f : Value → Sem Value} {g : Int → Int}
    (rule : ∀ (i : Int) (t : Tok) (s : Shared) (Q : Value → Shared → Prop) (E : Value → Shared → Prop), Q (.int (g i) s.toks) { s with toks := s.toks + 1 } → wpAny (model X.prog X.w) X.A (f (.int i t)) Q E s) :
    UnR X f (rU fun i => .int (g i)) := by
  intro pins s σ H x v Q I rx h
  obtain ⟨i, rfl, q⟩ := h
  obtain ⟨t, rfl⟩ := rx
  exact rule i t s _ _ ⟨.int (g i), H, I.tok _, ⟨_, rfl⟩, q⟩
theorem un_neg : UnR X (unaryOp .USub) (rU fun i => .int (-i)) := unI fun _ _ _ _ _ q => neg_int q
end
def scal : V → V → Bool
  | .non, .non => true | .non, .int _ => true | .int _, .non => true | .non, .bl _ => true | .bl _, .non => true | .non, .str _ => true | .str _, .non => true
  | .int _, .int _ => true | .bl _, .bl _ => true | .str _, .str _ => true | .byt _, .byt _ => true
  | .int _, .str _ => true | .str _, .int _ => true | .bl _, .str _ => true | .str _, .bl _ => true
  | _, _ => false
def rEq : R2 := fun x y H Q => scal x y = true ∧ Q (.bl (decide (x = y))) H
def rNe : R2 := fun x y H Q => scal x y = true ∧ Q (.bl (!decide (x = y))) H
theorem dec_int {i j : Int} : decide (V.int i = V.int j) = (i == j) := by
  rw [Bool.eq_iff_iff]
  simp
theorem dec_bl {i j : Bool} : decide (V.bl i = V.bl j) = (i == j) := by
  rw [Bool.eq_iff_iff]
  simp
theorem dec_str {i j : Str} : decide (V.str i = V.str j) = (i == j) := by
  rw [Bool.eq_iff_iff]
  simp
theorem dec_byt {i j : Array UInt8} : decide (V.byt i = V.byt j) = (i.toList == j.toList) := by
  rw [Bool.eq_iff_iff]
  cases i
  cases j
  simp
section
variable {X : Cx} {a b c : Expr} {ta tb tc : TE} {pos : Pos}
theorem fin_bl {pins : List (Addr × Obj)} {σ : St} {H : Hp} {s : Shared} {Q : VK} {k k' : Bool} (I : Inv X pins σ H s) (q : Q (.bl k) H) (e : k = k') : EP X pins σ Q (.bool k') s := by
  subst e
  exact ⟨.bl k, H, I, rfl, q⟩
theorem op_eq : OpR X (compareOp .Eq) rEq := by
  intro pins s σ H x y v u Q I rx ry h
  obtain ⟨hs, q⟩ := h
  cases x with
  | non =>
    cases rx
    cases y with
    | non => cases ry; exact PySem.EqNone.eq_none_none (fin_bl I q (by simp))
    | bl j => cases ry; exact PySem.EqNone.eq_none_bool (fin_bl I q (by simp))
    | int j => obtain ⟨t', rfl⟩ := ry; exact PySem.EqNone.eq_none_int (fin_bl I q (by simp))
    | str j => obtain ⟨t', rfl⟩ := ry; exact PySem.EqNone.eq_none_str (fin_bl I q (by simp))
    | _ => exact absurd (show false = true from hs) Bool.false_ne_true
  | bl i =>
    cases rx
    cases y with
    | non => cases ry; exact PySem.EqNone.eq_bool_none (fin_bl I q (by simp))
    | bl j => cases ry; exact eq_bool (fin_bl I q dec_bl)
    | str j => obtain ⟨t', rfl⟩ := ry; exact PySem.EqMixed.eq_bool_str (fin_bl I q (by simp))
    | _ => exact absurd (show false = true from hs) Bool.false_ne_true
  | int i =>
    obtain ⟨t, rfl⟩ := rx
    cases y with
    | non => cases ry; exact PySem.EqNone.eq_int_none (fin_bl I q (by simp))
    | int j => obtain ⟨t', rfl⟩ := ry; exact eq_int (fin_bl I q dec_int)
    | str j => obtain ⟨t', rfl⟩ := ry; exact PySem.EqMixed.eq_int_str (fin_bl I q (by simp))
    | _ => exact absurd (show false = true from hs) Bool.false_ne_true
  | str i =>
    obtain ⟨t, rfl⟩ := rx
    cases y with
    | non => cases ry; exact PySem.EqNone.eq_str_none (fin_bl I q (by simp))
    | bl j => cases ry; exact PySem.EqMixed.eq_str_bool (fin_bl I q (by simp))
    | int j => obtain ⟨t', rfl⟩ := ry; exact PySem.EqMixed.eq_str_int (fin_bl I q (by simp))
    | str j => obtain ⟨t', rfl⟩ := ry; exact eq_str (fin_bl I q dec_str)
    | _ => exact absurd (show false = true from hs) Bool.false_ne_true
  | byt i =>
    obtain ⟨t, rfl⟩ := rx
    cases y with
    | byt j => obtain ⟨t', rfl⟩ := ry; exact PySem.W.eq_bytes (fin_bl I q dec_byt)
    | _ => exact absurd (show false = true from hs) Bool.false_ne_true
  | _ => cases y <;> exact absurd (show false = true from hs) Bool.false_ne_true
theorem op_ne : OpR X (compareOp .NotEq) rNe := by
  intro pins s σ H x y v u Q I rx ry h
  obtain ⟨hs, q⟩ := h
  cases x with
  | non =>
    cases rx
    cases y with
    | non => cases ry; exact PySem.EqNone.ne_none_none (fin_bl I q (by simp))
    | bl j => cases ry; exact PySem.EqNone.ne_none_bool (fin_bl I q (by simp))
    | int j => obtain ⟨t', rfl⟩ := ry; exact PySem.EqNone.ne_none_int (fin_bl I q (by simp))
    | str j => obtain ⟨t', rfl⟩ := ry; exact PySem.EqNone.ne_none_str (fin_bl I q (by simp))
    | _ => exact absurd (show false = true from hs) Bool.false_ne_true
  | bl i =>
    cases rx
    cases y with
    | non => cases ry; exact PySem.EqNone.ne_bool_none (fin_bl I q (by simp))
    | bl j => cases ry; exact ne_bool (fin_bl I q (congrArg not dec_bl))
    | str j => obtain ⟨t', rfl⟩ := ry; exact PySem.EqMixed.ne_bool_str (fin_bl I q (by simp))
    | _ => exact absurd (show false = true from hs) Bool.false_ne_true
  | int i =>
    obtain ⟨t, rfl⟩ := rx
    cases y with
    | non => cases ry; exact PySem.EqNone.ne_int_none (fin_bl I q (by simp))
    | int j => obtain ⟨t', rfl⟩ := ry; exact ne_int (fin_bl I q (congrArg not dec_int))
    | str j => obtain ⟨t', rfl⟩ := ry; exact PySem.EqMixed.ne_int_str (fin_bl I q (by simp))
    | _ => exact absurd (show false = true from hs) Bool.false_ne_true
  | str i =>
    obtain ⟨t, rfl⟩ := rx
    cases y with
    | non => cases ry; exact PySem.EqNone.ne_str_none (fin_bl I q (by simp))
    | bl j => cases ry; exact PySem.EqMixed.ne_str_bool (fin_bl I q (by simp))
    | int j => obtain ⟨t', rfl⟩ := ry; exact PySem.EqMixed.ne_str_int (fin_bl I q (by simp))
    | str j => obtain ⟨t', rfl⟩ := ry; exact ne_str (fin_bl I q (congrArg not dec_str))
    | _ => exact absurd (show false = true from hs) Bool.false_ne_true
  | byt i =>
    obtain ⟨t, rfl⟩ := rx
    cases y with
    | byt j => obtain ⟨t', rfl⟩ := ry; exact PySem.W.ne_bytes (fin_bl I q (congrArg not dec_byt))
    | _ => exact absurd (show false = true from hs) Bool.false_ne_true
  | _ => cases y <;> exact absurd (show false = true from hs) Bool.false_ne_true
theorem op_lt : OpR X (compareOp .Lt) (rI0 fun i j => .bl (decide (i < j))) := opB0 fun _ _ _ _ _ _ _ q => lt_int q
theorem op_le : OpR X (compareOp .LtE) (rI0 fun i j => .bl (decide (i ≤ j))) := opB0 fun _ _ _ _ _ _ _ q => le_int q
theorem op_gt : OpR X (compareOp .Gt) (rI0 fun i j => .bl (decide (j < i))) := opB0 fun _ _ _ _ _ _ _ q => gt_int q
theorem op_ge : OpR X (compareOp .GtE) (rI0 fun i j => .bl (decide (j ≤ i))) := opB0 fun _ _ _ _ _ _ _ q => ge_int q
theorem nomark (b : Expr) {op : CmpOp} (h : op ≠ .In := by decide) (h2 : op ≠ .NotIn := by decide) : behindInMarks op b = false := by
  have e1 : (op == CmpOp.In) = false := by cases op <;> first | rfl | exact absurd rfl h
  have e2 : (op == CmpOp.NotIn) = false := by cases op <;> first | rfl | exact absurd rfl h2
  cases b <;> simp [behindInMarks, e1, e2]
theorem pe_cmpR {op : CmpOp} {r : R2} (ho : OpR X (compareOp op) r) (ha : PE X a ta) (hb : PE X b tb) (hm : behindInMarks op b = false) : PE X (.Compare a [op] [b] pos) (tOp r ta tb) := by
  intro pins s σ H Q I h
  exact wpAny_Compare1 (binT ha hb I h fun v u s2 x y H2 I2 rx ry q => ho pins s2 σ H2 x y v u Q I2 rx ry q) hm
def tTest (t : TE) : TT := fun σ H Q => t σ H fun x H' => ∃ k, x = .bl k ∧ Q k H'
theorem pt_cmpR {op : CmpOp} {r : R2} (ho : OpR X (compareOp op) r) (ha : PE X a ta) (hb : PE X b tb) (hm : behindInMarks op b = false) : PT X (.Compare a [op] [b] pos) (tTest (tOp r ta tb)) := by
  intro pins s σ H Q I h
  refine wpAny_isTrue_Compare1 (thn (ha pins s σ H _ I h) fun v s1 ⟨x, H1, I1, r1, q1⟩ => thn (hb pins s1 σ H1 _ I1 q1) fun u s2 ⟨y, H2, I2, r2, q2⟩ =>
    thn (ho pins s2 σ H2 x y v u _ I2 r1 r2 q2) fun c s3 ⟨z, H3, I3, r3, k, e, q3⟩ => ?_) hm
  subst e
  cases r3
  exact wpAny_truthy_bool ⟨H3, I3, q3⟩
def tChain (r r' : R2) (ta tb tc : TE) : TE := fun σ H Q => ta σ H fun x H1 => tb σ H1 fun y H2 => r x y H2 fun z H3 => ∃ k, z = .bl k ∧
  (if k = true then tc σ H3 fun w' H4 => r' y w' H4 Q else Q (.bl false) H3)
theorem line63 : (sizeLine : Nat) < 2 ^ 63 := by rw [sizeLine_eq]; decide
theorem vals1 {x : V} {us : List Value} (r : Vals [x] us) : ∃ u, us = [u] ∧ RelV x u := by
  cases r with
  | cons r1 r2 => cases r2; exact ⟨_, rfl, r1⟩
theorem vals2 {x y : V} {us : List Value} (r : Vals [x, y] us) : ∃ u w', us = [u, w'] ∧ RelV x u ∧ RelV y w' := by
  cases r with
  | cons r1 r2 =>
    cases r2 with
    | cons r3 r4 => cases r4; exact ⟨_, _, rfl, r1, r3⟩
theorem call_abs : CallR X (.builtin "abs") (fun xs H Q => ∃ i, xs = [.int i] ∧ Q (.int (if i < 0 then -i else i)) H) := by
  intro pins s σ H xs us Q I r h
  obtain ⟨i, rfl, q⟩ := h
  obtain ⟨u, rfl, t, rfl⟩ := vals1 r
  exact call_abs_int fun u tk => ⟨.int (if i < 0 then -i else i), H, I.tok _, ⟨_, rfl⟩, q⟩
theorem call_max2 (hc : X.calm = true) : CallR X (.builtin "max") (fun xs H Q => ∃ i j, xs = [.int i, .int j] ∧ Q (.int (if j > i then j else i)) H) := by
  intro pins s σ H xs us Q I r h
  obtain ⟨i, j, rfl, q⟩ := h
  obtain ⟨u, w', rfl, ⟨t, rfl⟩, ⟨t', rfl⟩⟩ := vals2 r
  refine max_two_ints (I.ok.hd hc) fun h' tk k => ⟨_, H, I.kept k, ?_, q⟩
  by_cases hj : j > i
  · rw [if_pos hj, if_pos hj]; exact ⟨_, rfl⟩
  · rw [if_neg hj, if_neg hj]; exact ⟨_, rfl⟩
end
end L2
namespace L2
open PySem PySem.Spec PyProof.Rows
structure ObjM (h : Heap) (x dx C : Addr) (mA : Str → Option Value) : Prop where
  obj : h.get? x = some (PySem.W.instObj C dx)
  ns : h.Ns1 dx mA
  ne : dx ≠ x
theorem lookIn_ns {h : Heap} {dx : Addr} {mA : Str → Option Value} (n : h.Ns1 dx mA) : ∃ od, h.get? dx = some od ∧ ∀ name, PySem.W.lookIn name od = some (mA name) := by
  obtain ⟨o, es, ep, ho, hd, hk, _, hm⟩ := n
  refine ⟨o, ho, fun name => ?_⟩
  have e := hm name
  unfold nsFind findBy at e
  rw [← Array.find?_toList] at e
  unfold PySem.W.lookIn
  rw [hd]
  dsimp only
  split
  · rename_i y q
    rw [q] at e
    exact congrArg some e
  · rename_i q
    rw [q] at e
    have a : es.toList.any (·.refKey) = false := by
      rw [List.any_eq_false]
      intro y hy
      obtain ⟨z, t, hkey⟩ := hk y (Array.mem_toList_iff.mp hy)
      simp [DictEntry.refKey, hkey]
    have a' : ¬ es.toList.any (·.refKey) = true := by rw [a]; exact Bool.false_ne_true
    rw [if_neg a']
    exact congrArg some e
theorem ObjM.look {h : Heap} {x dx C : Addr} {mA : Str → Option Value} (I : ObjM h x dx C mA) : ∃ od, PySem.W.InstAt h x (PySem.W.instObj C dx) C (some od) ∧ ∀ name, PySem.W.lookIn name od = some (mA name) :=
  let ⟨od, ho, hl⟩ := lookIn_ns I.ns
  ⟨od, ⟨I.obj, rfl, rfl, ho⟩, hl⟩
section
variable {prog : Program} {w : World} {A : Around} {E : Value → Shared → Prop} {s : Shared} {K : PySem.W.Frag} {x dx C f : Addr} {mA : Str → Option Value} {name : Str} {v : Value}
theorem get_map {expr : Bool} {Q : Value → Shared → Prop} (X : K.In s.heap) (I : ObjM s.heap x dx C mA) (hg : PySem.W.plainGet K C name = true) (hh : PySem.W.hasDictIn K C = true)
    (ha : PySem.W.findIn K (.ref C) name = some none) (hv : mA name = some v) (hv' : PySem.W.handedIn v = true) (h : Q v { s with toks := s.toks + 1 }) :
    wpAny (model prog w) A (getAttr (.ref x) name expr) Q E s := by
  obtain ⟨od, J, hl⟩ := I.look
  exact PySem.W.get_value X J (PySem.W.plainGet_of hg).1 (PySem.W.findObj_own hh ha rfl (by rw [hl, hv])) hv' h
theorem get_meth {pl : Sem Bool} {Q : Value × List Value → Shared → Prop} (X : K.In s.heap) (I : ObjM s.heap x dx C mA) (hg : PySem.W.plainGet K C name = true)
    (hf : PySem.W.findIn K (.ref C) name = some (some (.ref f))) (ht : PySem.W.isFn K (.ref f) = true) (hv : mA name = none) (h : Q (.ref f, [.ref x]) s) :
    wpAny (model prog w) A (getMethod (.ref x) name pl) Q E s := by
  obtain ⟨od, J, hl⟩ := I.look
  exact PySem.W.method_fn X J (PySem.W.plainGet_of hg).1 (PySem.W.plainGet_of hg).2 hf (beq_iff_eq.mp ht) (by show (PySem.W.lookIn name od).map (·.isSome) = some false; rw [hl, hv]; rfl) h
theorem set_map {ns : List Str} {Q : Unit → Shared → Prop} (X : K.In s.heap) (I : ObjM s.heap x dx C mA)
    (hs : PySem.W.findIn K (.ref C) "__setattr__" = some (some (.builtin "object.__setattr__"))) (hp : PySem.W.plainOver K C = true) (ht : PySem.W.takerIn K C name = some none) (hh : PySem.W.hasDictIn K C = true)
    (hw : PySem.Within mA ns) (hsz : ns.length ≤ sizeLine)
    (h : ∀ h', ObjM h' x dx C (fun y => if y = name then some v else mA y) → Heap.SameBut dx s.heap h' → Q () { s with heap := h', toks := s.toks + 2 }) :
    wpAny (model prog w) A (setAttr (.ref x) name v) Q E s := by
  obtain ⟨od, J, hl⟩ := I.look
  refine PySem.W.set_plain X J hs (PySem.W.osa_open (s := { s with toks := s.toks + 1 }) (r := none) X J hp ht fun b => ?_)
  obtain ⟨cd, hc, hd'⟩ := PySem.W.any_some hh
  have hx : s.heap.get? x = some ⟨.ref C, some dx, .plain, #[]⟩ := I.obj
  refine wpAny_bind (wpAny_pure (wpAny_bind (wpAny_bind (wpAny_loadPart hx (wpAny_bind (PySem.W.Looks.here (s := { s with toks := s.toks + 1 }) (PySem.W.looks_clsIn X hc) ?_))))))
  rw [hd']
  refine wpAny_pure (a := some dx) (wpAny_bind (wpAny_pure (wpAny_bind ?_)))
  refine wpAny_nsSet1 (s := { s with toks := s.toks + 1 }) I.ns fun h' hn2 hs2 => ?_
  obtain ⟨oD, esD, epD, hoD, hdD, hcD⟩ := hn2.count (PySem.Within.cons name v hw)
  refine wpAny_bind (wpAny_lookBehind hoD (by rw [hdD]; exact pastItsLine_dict (Nat.le_trans hcD (by rw [List.length_cons]; omega))) ?_)
  exact wpAny_pure (h _ ⟨(hs2.2 _ (Ne.symm I.ne)).trans I.obj, hn2, I.ne⟩ hs2)
theorem make_map {R : Result → Shared → Prop} {vs : List Value} {kw : List (Str × Value)} (X : K.In s.heap) (hm : PySem.W.makesIn K C = true)
    (hi : PySem.W.findIn K (.ref C) "__init__" = some (some (.ref f))) (hf : PySem.W.typeIn K (.ref f) = some (.type "function"))
    (h : codeAny (model prog w) (A.under (.builtin "type.__call__" ⟨.ref C :: vs, kw⟩)) (.call (.ref f) ⟨.ref (s.heap.objs.size + 1) :: vs, kw⟩) (PySem.W.InitBack (s.heap.objs.size + 1) R)
      { s with heap := (s.heap.push PySem.W.emptyDict).push (PySem.W.instObj C s.heap.objs.size) }) :
    codeAny (model prog w) A (.call (.ref C) ⟨vs, kw⟩) R s := by
  obtain ⟨hh, g, d, t, os⟩ := s
  exact PySem.W.make_core (PySem.W.makes_of X hm) (PySem.W.looks_findIn X hi) (fun self => PySem.W.bind_fn X self hf) (.inl rfl) h
end
def putF (f : Str) (v : V) : List (Str × V) → List (Str × V)
  | [] => [(f, v)]
  | (g, x) :: r => if g = f then (g, v) :: r else (g, x) :: putF f v r
theorem lookup_putF (f g : Str) (v : V) : ∀ fs : List (Str × V), (putF f v fs).lookup g = if g = f then some v else fs.lookup g
  | [] => by
    show List.lookup g [(f, v)] = _
    by_cases h : g = f
    · have hb : (g == f) = true := beq_iff_eq.mpr h
      simp only [List.lookup, hb, if_pos h]
    · have hb : (g == f) = false := beq_eq_false_iff_ne.mpr h
      simp only [List.lookup, hb, if_neg h]
  | (k, x) :: r => by
    have ih := lookup_putF f g v r
    rw [show putF f v ((k, x) :: r) = (if k = f then (k, v) :: r else (k, x) :: putF f v r) from rfl]
    by_cases hk : k = f
    · rw [if_pos hk]
      by_cases h : g = k
      · have hb : (g == k) = true := beq_iff_eq.mpr h
        simp only [List.lookup, hb, if_pos (h.trans hk)]
      · have hb : (g == k) = false := beq_eq_false_iff_ne.mpr h
        simp only [List.lookup, hb, if_neg (fun e : g = f => h (e.trans hk.symm))]
    · rw [if_neg hk]
      by_cases h : g = k
      · have hb : (g == k) = true := beq_iff_eq.mpr h
        simp only [List.lookup, hb, if_neg (fun e : g = f => hk (h.symm.trans e))]
      · have hb : (g == k) = false := beq_eq_false_iff_ne.mpr h
        simp only [List.lookup, hb]
        exact ih
theorem keys_putF (f : Str) (v : V) : ∀ fs : List (Str × V), f ∈ (putF f v fs).map (·.1) ∧ ∀ g, g ∈ fs.map (·.1) → g ∈ (putF f v fs).map (·.1)
  | [] => ⟨by simp [putF], fun g h => by simp at h⟩
  | (k, x) :: r => by
    obtain ⟨i1, i2⟩ := keys_putF f v r
    rw [show putF f v ((k, x) :: r) = (if k = f then (k, v) :: r else (k, x) :: putF f v r) from rfl]
    by_cases hk : k = f
    · rw [if_pos hk]
      subst hk
      exact ⟨by simp, fun g h => by simpa using h⟩
    · rw [if_neg hk]
      refine ⟨?_, fun g h => ?_⟩
      · rw [List.map_cons]
        exact List.mem_cons_of_mem _ i1
      · rw [List.map_cons] at h ⊢
        rcases List.mem_cons.mp h with e | e
        · exact List.mem_cons.mpr (.inl e)
        · exact List.mem_cons_of_mem _ (i2 g e)
theorem length_putF (f : Str) (v : V) : ∀ fs : List (Str × V), (putF f v fs).length ≤ fs.length + 1
  | [] => by simp [putF]
  | (k, x) :: r => by
    have ih := length_putF f v r
    rw [show putF f v ((k, x) :: r) = (if k = f then (k, v) :: r else (k, x) :: putF f v r) from rfl]
    by_cases hk : k = f
    · rw [if_pos hk, List.length_cons, List.length_cons]; omega
    · rw [if_neg hk, List.length_cons, List.length_cons]; omega
theorem RelO.some_of {v : V} {o : Option Value} (r : RelO (some v) o) : ∃ u, o = some u ∧ RelV v u := by
  cases o with
  | none => exact (show False from r).elim
  | some u => exact ⟨u, rfl, r⟩
theorem RelO.none_of {o : Option Value} (r : RelO none o) : o = none := by
  cases o with
  | none => rfl
  | some u => exact (show False from r).elim
theorem handed_of {v : V} {u : Value} (r : RelV v u) : PySem.W.handedIn u = true := by
  cases v with
  | non => cases (show u = Value.none from r); rfl
  | bl b => cases (show u = Value.bool b from r); rfl
  | int i => obtain ⟨t, e⟩ := (show ∃ t, u = Value.int i t from r); cases e; rfl
  | str x => obtain ⟨t, e⟩ := (show ∃ t, u = Value.str x t from r); cases e; rfl
  | byt b => obtain ⟨t, e⟩ := (show ∃ t, u = Value.bytes b t from r); cases e; rfl
  | flt b => obtain ⟨t, e⟩ := (show ∃ t, u = Value.float b t from r); cases e; rfl
  | ref a => cases (show u = Value.ref a from r); rfl
  | ty n => cases (show u = Value.type n from r); rfl
section
variable {P : Program} {w : World} {H H' : Hp} {h h' : Heap} {a C dx : Addr} {fs fs' : List (Str × V)}
theorem ins_get (hok : HOk P w H h) (e : H a = some (.ins C dx fs)) : ∃ mA, ObjM h a dx C mA ∧ (∀ f, RelO (fs.lookup f) (mA f)) ∧ PySem.Within mA (fs.map (·.1)) ∧ fs.length ≤ 1000 ∧ H dx = some (.own a) := by
  obtain ⟨d, z, ne, ob, mA, n, r, q⟩ := (show ObjOk P w H h a (.ins C dx fs) from hok a _ e)
  exact ⟨mA, ⟨ob, n, ne⟩, r, q, z, d⟩
end
structure Cls (K : PySem.W.Frag) (C : Addr) : Prop where
  pg : PySem.W.plainGet K C Str.empty = true
  hd : PySem.W.hasDictIn K C = true
  po : PySem.W.plainOver K C = true
  sa : PySem.W.findIn K (.ref C) "__setattr__" = some (some (.builtin "object.__setattr__"))
theorem Cls.get {K : PySem.W.Frag} {C : Addr} (c : Cls K C) (f : Str) : PySem.W.plainGet K C f = true := c.pg
def NoAttr (K : PySem.W.Frag) (C : Addr) (f : Str) : Prop := PySem.W.findIn K (.ref C) f = some none
theorem NoAttr.taker {K : PySem.W.Frag} {C : Addr} {f : Str} (n : NoAttr K C f) : PySem.W.takerIn K C f = some none := by
  unfold PySem.W.takerIn
  rw [show PySem.W.findIn K (.ref C) f = some none from n]
  rfl
structure Meth (K : PySem.W.Frag) (C : Addr) (m : Str) (f : Addr) : Prop where
  at_ : PySem.W.findIn K (.ref C) m = some (some (.ref f))
  fn : PySem.W.isFn K (.ref f) = true
  kp : PySem.W.keepIn K (.ref f) = true
section
variable {X : Cx} {pins : List (Addr × Obj)} {σ : St} {H : Hp} {s : Shared} {a C dx : Addr} {fs : List (Str × V)} {f : Str} {v : V} {A : Around} {E : Value → Shared → Prop}
theorem getattr_ok {b : Bool} {Q : Value → Shared → Prop} (I : Inv X pins σ H s) (e : H a = some (.ins C dx fs)) (c : Cls X.K C) (n : NoAttr X.K C f) (l : fs.lookup f = some v)
    (h : ∀ u s', Inv X pins σ H s' → RelV v u → Q u s') : wpAny (model X.prog X.w) A (getAttr (.ref a) f b) Q E s := by
  obtain ⟨mA, O, r, _, _, _⟩ := ins_get I.hok e
  obtain ⟨u, hu, ru⟩ := RelO.some_of (v := v) (o := mA f) (by rw [← l]; exact r f)
  exact get_map I.kIn O (c.get f) c.hd n hu (handed_of ru) (h u _ (I.tok _) ru)
theorem getmeth_ok {m : Str} {g : Addr} {pl : Sem Bool} {Q : Value × List Value → Shared → Prop} (I : Inv X pins σ H s) (e : H a = some (.ins C dx fs)) (c : Cls X.K C) (k : Meth X.K C m g) (l : fs.lookup m = none)
    (h : Q (.ref g, [.ref a]) s) : wpAny (model X.prog X.w) A (getMethod (.ref a) m pl) Q E s := by
  obtain ⟨mA, O, r, _, _, _⟩ := ins_get I.hok e
  have hn : mA m = none := RelO.none_of (by rw [← l]; exact r m)
  exact get_meth I.kIn O (c.get m) k.at_ k.fn hn h
theorem setattr_ok {y : V} {u : Value} {Q : Unit → Shared → Prop} (I : Inv X pins σ H s) (e : H a = some (.ins C dx fs)) (c : Cls X.K C) (n : NoAttr X.K C f) (hl : fs.length < 1000) (ry : RelV y u)
    (h : ∀ s', Inv X pins σ (upd H a (.ins C dx (putF f y fs))) s' → Q () s') : wpAny (model X.prog X.w) A (setAttr (.ref a) f u) Q E s := by
  obtain ⟨mA, O, r, wi, _, ho⟩ := ins_get I.hok e
  have hz : (fs.map (·.1)).length ≤ sizeLine := by rw [List.length_map, sizeLine_eq]; omega
  refine set_map I.kIn O c.sa c.po n.taker c.hd wi hz fun h' O' sb => h _ ?_
  have hd : ∃ o, h'.get? dx = some o := let ⟨o, _, _, e', _⟩ := O'.ns; ⟨o, e'⟩
  refine I.write (x := a) (e := dx) (by rw [e]; exact True.intro) (.inr ho) (fun b q hb z => (sb.2 b hb).trans z) hd ?_
  refine ⟨by rw [upd_ne O.ne]; exact ho, ?_, O.ne, O'.obj, _, O'.ns, fun g => ?_, fun g hg => ?_⟩
  · have := length_putF f y fs; omega
  · show RelO ((putF f y fs).lookup g) (if g = f then some u else mA g)
    rw [lookup_putF]
    by_cases q : g = f
    · rw [if_pos q, if_pos q]; exact ry
    · rw [if_neg q, if_neg q]; exact r g
  · by_cases q : g = f
    · rw [q]; exact (keys_putF f y fs).1
    · refine (keys_putF f y fs).2 g (wi g fun z => hg ?_)
      show (if g = f then some u else mA g) = none
      rw [if_neg q]; exact z
theorem Inv.made (I : Inv X pins σ H s) : Inv X pins σ (upd (upd H s.heap.objs.size (.own (s.heap.objs.size + 1))) (s.heap.objs.size + 1) (.ins C s.heap.objs.size []))
    { s with heap := (s.heap.push PySem.W.emptyDict).push (PySem.W.instObj C s.heap.objs.size) } := by
  have e1 : (s.heap.push PySem.W.emptyDict).get? s.heap.objs.size = some PySem.W.emptyDict := Heap.get?_push_size s.heap rfl
  have e2 : ((s.heap.push PySem.W.emptyDict).push (PySem.W.instObj C s.heap.objs.size)).get? (s.heap.objs.size + 1) = some (PySem.W.instObj C s.heap.objs.size) := by
    have := Heap.get?_push_size (s.heap.push PySem.W.emptyDict) (o := PySem.W.instObj C s.heap.objs.size) rfl
    rwa [Heap.size_push] at this
  have e3 : (s.heap.push PySem.W.emptyDict).Ns s.heap.objs.size (fun _ => none) := ⟨PySem.W.emptyDict, #[], _, e1, rfl, (fun e he => absurd he (by simp)), fun _ => rfl⟩
  have I1 := I.laid (a := s.heap.objs.size) (o := .own (s.heap.objs.size + 1)) (h' := s.heap.push PySem.W.emptyDict) (t' := s.toks) (fun b u q => Heap.get?_push_of_some _ q) (Nat.le_refl _) ⟨_, e1⟩
  refine I1.laid (a := s.heap.objs.size + 1) (o := .ins C s.heap.objs.size []) (t' := s.toks) (fun b u q => Heap.get?_push_of_some _ q) (Nat.le_of_eq (Heap.size_push _ _)) ?_
  have ne : s.heap.objs.size ≠ s.heap.objs.size + 1 := Nat.ne_of_lt (Nat.lt_succ_self _)
  refine ⟨by rw [upd_ne ne, upd_same], Nat.zero_le _, ne, e2, fun _ => none, (Heap.Ns1.of_empty e3).at fun o q => Heap.get?_push_of_some _ q, fun _ => True.intro, fun y hy => absurd rfl hy⟩
theorem attr_of {prog : Program} {w : World} {env : Env} {e : Expr} {f : Str} {pos : Pos} {s : Shared} {Q : Value → Shared → Prop} (hb : attributeBase e f env (eval e env) = eval e env)
    (h : wpAny (model prog w) A (eval e env) (fun o s₁ => wpAny (model prog w) A (getAttr o f true) Q E s₁) E s) : wpAny (model prog w) A (eval (.Attribute e f pos) env) Q E s :=
  Attribute_any_ h (by rw [arm_eval_Attribute, hb])
end
def tFld (K : PySem.W.Frag) (ta : TE) (f : Str) : TE := fun σ H Q => ta σ H fun x H1 => ∃ a C dx fs v, x = .ref a ∧ H1 a = some (.ins C dx fs) ∧ Cls K C ∧ NoAttr K C f ∧ fs.lookup f = some v ∧ Q v H1
def sFld (K : PySem.W.Frag) (ta tv : TE) (f : Str) : TS := fun D σ H => tv σ H fun y H1 => ta σ H1 fun x H2 => ∃ a C dx fs, x = .ref a ∧ H2 a = some (.ins C dx fs) ∧ Cls K C ∧ NoAttr K C f ∧ fs.length < 1000 ∧
  D.nx σ (upd H2 a (.ins C dx (putF f y fs)))
section
variable {X : Cx} {o e value : Expr} {f : Str} {pos pos' tpos : Pos} {ta tv : TE}
theorem pe_fld (he : PE X e ta) (hb : attributeBase e f X.env (eval e X.env) = eval e X.env) : PE X (.Attribute e f pos) (tFld X.K ta f) := by
  intro pins s σ H Q I h
  refine attr_of hb (thn (he pins s σ H _ I h) fun u s1 ⟨x, H1, I1, rx, a, C, dx, fs, v, ex, ea, c, n, l, q⟩ => ?_)
  subst ex
  obtain rfl : u = Value.ref a := rx
  exact getattr_ok I1 ea c n l fun u' s2 I2 ru => ⟨v, H1, I2, ru, q⟩
theorem ps_fld (ha : PE X o ta) (hv : PE X value tv) (hs : swapsWith value (some (.Attribute o f pos')) pos.line X.env = pure false) : PS X (.Assign [.Attribute o f pos'] value pos) (sFld X.K ta tv f) := by
  intro pins s σ H D I h
  refine plainObj_wpAny_Assign_Attribute (thn (hv pins s σ H _ I h) fun u s1 ⟨y, H1, I1, ry, q⟩ => thn (ha pins s1 σ H1 _ I1 q) fun ov s2 ⟨x, H2, I2, rx, a, C, dx, fs, ex, ea, c, n, l, q2⟩ => ?_) hs
  subst ex
  obtain rfl : ov = Value.ref a := rx
  exact setattr_ok I2 ea c n l ry fun s3 I3 => ⟨σ, _, I3, q2⟩
theorem methcall_of {pl : Sem Bool} {m : Str} {apos : Pos} {args : List Expr} {pins : List (Addr × Obj)} {s : Shared} {σ : St} {H : Hp} {Q : Value → Shared → Prop} {te : TE} (he : PE X e te) (I : Inv X pins σ H s)
    (h : te σ H fun x H1 => ∃ a C dx fs g, x = .ref a ∧ H1 a = some (.ins C dx fs) ∧ Cls X.K C ∧ Meth X.K C m g ∧ fs.lookup m = none ∧
      ∀ s1, Inv X pins σ H1 s1 → wpAny (model X.prog X.w) X.A (callWith pos (.ref g) [.ref a] (backTo pos (starEach args X.env)) (backToKw pos (keywordEach [] X.env))) Q X.xe s1)
    (ht : eval (.Call (.Attribute e m apos) args [] pos) X.env = (do
      let ov ← eval e X.env
      standAt apos.atName
      let (f, first) ← holding [ov] (getMethod ov m pl)
      callWith pos f first (backTo pos (starEach args X.env)) (backToKw pos (keywordEach [] X.env)))) :
    wpAny (model X.prog X.w) X.A (eval (.Call (.Attribute e m apos) args [] pos) X.env) Q X.xe s := by
  refine PySem.W.methodCall_KW (pl := pl) (thn (he pins s σ H _ I h) fun u s1 ⟨x, H1, I1, rx, a, C, dx, fs, g, ex, ea, c, k, l, q⟩ => ?_) ht
  subst ex
  obtain rfl : u = Value.ref a := rx
  exact getmeth_ok I1 ea c k l (q s1 I1)
end
section
variable {X : Cx} {pins : List (Addr × Obj)} {σ : St} {H : Hp} {s : Shared} {A : Around} {E : Value → Shared → Prop} {Q : Value → Shared → Prop} {c : Value} {b : Bool}
inductive TyOf (K : PySem.W.Frag) (H : Hp) : V → Value → Prop where
  | non : TyOf K H .non (.type "NoneType")
  | bl (x : Bool) : TyOf K H (.bl x) (.type "bool")
  | int (i : Int) : TyOf K H (.int i) (.type "int")
  | str (x : Str) : TyOf K H (.str x) (.type "str")
  | flt (x : UInt64) : TyOf K H (.flt x) (.type "float")
  | lst {a : Addr} {xs : List V} (e : H a = some (.lst xs)) : TyOf K H (.ref a) (.type "list")
  | frz {a : Addr} {o : Obj} {xs : List V} (e : H a = some (.frz o (.lst xs))) : TyOf K H (.ref a) (.type "list")
  | tup {a : Addr} {xs : List V} (e : H a = some (.tup xs)) : TyOf K H (.ref a) (.type "tuple")
  | dK {a : Addr} {kvs : List (Key × V)} (e : H a = some (.dK kvs)) : TyOf K H (.ref a) (.type "dict")
  | dT {a : Addr} {kvs : List (List Key × V)} (e : H a = some (.dT kvs)) : TyOf K H (.ref a) (.type "dict")
  | ins {a C dx : Addr} {fs : List (Str × V)} (e : H a = some (.ins C dx fs)) (cl : Cls K C) (ha : PySem.W.findIn K (.ref C) "__class__" = some (some (.builtin "object.__class__")))
      (hn : PySem.W.specialIn K (.builtin "object.__class__") "__get__" = some (some (.builtin "getset_descriptor.__get__"))) (htk : PySem.W.takesIn K (.builtin "object.__class__") = some true)
      (hm : PySem.W.mroIn K C (.type "object") = some true) : TyOf K H (.ref a) (.ref C)
theorem isinst_ok {x : V} {u t : Value} (I : Inv X pins σ H s) (rx : RelV x u) (ty : TyOf X.K H x t) (e : PySem.W.kitOne X.K t c = some b) (h : ∀ tk, Q (.bool b) { s with toks := tk }) :
    wpAny (model X.prog X.w) A (call (.builtin "isinstance") [u, c]) Q E s := by
  cases ty with
  | non => cases (show u = Value.none from rx); exact PySem.W.kia_one PySem.W.kitx_none I.kIn True.intro e (fun z => nomatch z) h
  | bl y => cases (show u = Value.bool y from rx); exact PySem.W.kia_one PySem.W.kitx_bool I.kIn True.intro e (fun z => nomatch z) h
  | int i => obtain ⟨t, q⟩ := (show ∃ t, u = Value.int i t from rx); cases q; exact PySem.W.kia_one PySem.W.kitx_int I.kIn True.intro e (fun z => nomatch z) h
  | str y => obtain ⟨t, q⟩ := (show ∃ t, u = Value.str y t from rx); cases q; exact PySem.W.kia_one PySem.W.kitx_str I.kIn True.intro e (fun z => nomatch z) h
  | flt y => obtain ⟨t, q⟩ := (show ∃ t, u = Value.float y t from rx); cases q; exact PySem.W.kia_one PySem.W.kitx_float I.kIn True.intro e (fun z => nomatch z) h
  | @lst a xs ea =>
    cases (show u = Value.ref a from rx)
    obtain ⟨_, _, n, _, h1⟩ := (show ObjOk X.prog X.w H s.heap a (.lst xs) from I.hok a _ ea)
    exact PySem.W.kia_one PySem.W.kitx_list I.kIn ⟨_, h1, rfl⟩ e (fun z => nomatch z) h
  | @frz a ob xs ea =>
    cases (show u = Value.ref a from rx)
    obtain ⟨_, _, _, n, _, h1⟩ := (show ObjOk X.prog X.w H s.heap a (.frz ob (.lst xs)) from I.hok a _ ea)
    exact PySem.W.kia_one PySem.W.kitx_list I.kIn ⟨_, h1, rfl⟩ e (fun z => nomatch z) h
  | @tup a xs ea =>
    cases (show u = Value.ref a from rx)
    obtain ⟨_, _, _, p⟩ := (show ObjOk X.prog X.w H s.heap a (.tup xs) from I.hok a _ ea)
    obtain ⟨o, h1, h2, _⟩ := p
    exact PySem.W.kia_one PySem.W.kitx_tuple I.kIn ⟨o, h1, h2⟩ e (fun z => nomatch z) h
  | @dK a kvs ea =>
    cases (show u = Value.ref a from rx)
    obtain ⟨_, _, vs, _, p⟩ := (show ObjOk X.prog X.w H s.heap a (.dK kvs) from I.hok a _ ea)
    obtain ⟨o, es, ep, h1, h2, _⟩ := p
    exact PySem.W.kia_one PySem.W.kitx_dict I.kIn ⟨o, h1, h2.1⟩ e (fun z => nomatch z) h
  | @dT a kvs ea =>
    cases (show u = Value.ref a from rx)
    obtain ⟨_, _, xs, _, o, es, ep, h1, h2, _⟩ := (show ObjOk X.prog X.w H s.heap a (.dT kvs) from I.hok a _ ea)
    exact PySem.W.kia_one PySem.W.kitx_dict I.kIn ⟨o, h1, h2.1⟩ e (fun z => nomatch z) h
  | @ins a C dx fs ea cl ha hn htk hm =>
    cases (show u = Value.ref a from rx)
    obtain ⟨mA, O, _⟩ := ins_get I.hok ea
    obtain ⟨od, J, _⟩ := O.look
    exact PySem.W.kia_one (PySem.W.kitx_own (cl.get _) cl.hd ha hn htk hm) I.kIn J e (fun z => nomatch z) h
end
end L2
namespace L2
open PySem PySem.Spec PyProof.Rows
structure Room (k : Nat) (A : Around) : Prop where
  hd : A.handled = none
  dp : A.depth + 3 * k + 5 < recursionLimit
  un : A.units + 16 * k + 200 < cLine
theorem Room.mono {j k : Nat} {A : Around} (r : Room k A) (h : j ≤ k) : Room j A := ⟨r.hd, by have := r.dp; omega, by have := r.un; omega⟩
theorem Room.deeper {k : Nat} {A : Around} (r : Room (k + 1) A) (env : Env) : Room k (A.deeper env) :=
  ⟨r.hd, by have := r.dp; show A.depth + 1 + 3 * k + 5 < _; omega, by have := r.un; show A.units + 3 + 16 * k + 200 < _; omega⟩
theorem make_depth {A : Around} {C : Addr} {us : List Value} {kw : List (Str × Value)} : (A.under (.builtin "type.__call__" ⟨.ref C :: us, kw⟩)).depth = A.depth + 1 := by
  first | rfl | simp [Around.under, Code.weight, Code.isCreation, Code.isGuard, Code.isCaller, Code.frames, Code.isFrame, guardIds]
theorem make_units {A : Around} {C : Addr} {us : List Value} {kw : List (Str × Value)} : (A.under (.builtin "type.__call__" ⟨.ref C :: us, kw⟩)).units = A.units + 1 := by
  first | rfl | simp [Around.under, Code.cUnits, Code.frames, Code.isFrame]
theorem Room.make {k : Nat} {A : Around} (r : Room (k + 1) A) (C : Addr) (us : List Value) (kw : List (Str × Value)) : Room k (A.under (.builtin "type.__call__" ⟨.ref C :: us, kw⟩)) :=
  ⟨r.hd, by have := r.dp; rw [make_depth]; omega, by have := r.un; rw [make_units]; omega⟩
theorem Room.depth {k : Nat} {A : Around} (r : Room k A) : A.depth < recursionLimit := by have := r.dp; omega
theorem Room.units {k : Nat} {A : Around} (r : Room k A) : A.units + 64 < cLine := by have := r.un; omega
def tNil : TA := fun _ H Q => Q [] H
def tCons (ta : TE) (tr : TA) : TA := fun σ H Q => ta σ H fun x H1 => tr σ H1 fun xs H2 => Q (x :: xs) H2
section
variable {X : Cx} {e : Expr} {es : List Expr} {te : TE} {t : TA} {pos : Pos}
theorem pa_nil : PA X [] tNil := fun _ _ _ _ H Q I h => Calls.spliced_nil ⟨[], H, I, .nil, h⟩
theorem pa_cons (ha : PE X e te) (hr : PA X es t) (hs : starEach (e :: es) X.env = (false, eval e X.env) :: starEach es X.env := by rfl) : PA X (e :: es) (tCons te t) := by
  intro pos pins s σ H Q I h
  rw [hs]
  show wpAny _ _ (spliced ((false, eval e X.env) :: backTo pos (starEach es X.env))) _ _ s
  refine Calls.spliced_cons (thn (ha pins s σ H _ I h) fun u s1 ⟨x, H1, I1, r1, q1⟩ => ?_)
  exact thn (hr pos pins s1 σ H1 _ I1 q1) fun us s2 ⟨xs, H2, I2, r2, q2⟩ => ⟨x :: xs, H2, I2, .cons r1 r2, q2⟩
def tTup (t : TA) : TE := fun σ H Q => t σ H fun xs H1 => xs.length ≤ sizeLine ∧ ∀ p, H1 p = none → Q (.ref p) (upd H1 p (.tup xs))
def tLst (t : TA) : TE := fun σ H Q => t σ H fun xs H1 => xs.length ≤ sizeLine ∧ ∀ p, H1 p = none → Q (.ref p) (upd H1 p (.lst xs))
theorem pe_tup {x1} (h : PA X es t) : PE X (.Tuple es x1 pos) (tTup t) := by
  intro pins s σ H Q I hq
  refine wpAny_Tuple_spliced (thn (h pos pins s σ H _ I hq) fun us s1 ⟨xs, H1, I1, r, z, q⟩ => ⟨by rw [← r.length]; exact z, ?_⟩)
  have hf : H1 s1.heap.objs.size = none := I1.hok.fresh (Nat.le_refl _)
  refine ⟨.ref s1.heap.objs.size, upd H1 s1.heap.objs.size (.tup xs), I1.laid (t' := s1.toks) (fun b u e => Heap.get?_push_of_some _ e) (Nat.le_refl _) ?_, rfl, q _ hf⟩
  exact ⟨z, us, r, ⟨_, Heap.get?_push_size _ rfl, rfl, _, rfl⟩⟩
theorem pe_lst (h : PA X es t) : PE X (.List es pos) (tLst t) := by
  intro pins s σ H Q I hq
  refine wpAny_List_spliced (thn (h pos pins s σ H _ I hq) fun us s1 ⟨xs, H1, I1, r, z, q⟩ => ⟨by rw [← r.length]; exact z, ?_⟩)
  have hf : H1 s1.heap.objs.size = none := I1.hok.fresh (Nat.le_refl _)
  refine ⟨.ref s1.heap.objs.size, upd H1 s1.heap.objs.size (.lst xs), I1.laid (t' := s1.toks) (fun b u e => Heap.get?_push_of_some _ e) (Nat.le_refl _) ?_, rfl, q _ hf⟩
  exact ⟨z, us, 0, r, Heap.get?_push_size _ rfl⟩
end
abbrev Sp := List V → Hp → VK → XK → Prop
abbrev CXT := List Env → Hp → Shared → XK → Value → Shared → Prop
structure Env0 (P : Program) (w : World) (K : PySem.W.Frag) (mg : Str → Option Value) (base : Heap) (A : Around) (outer : List Env) (s : Shared) (H : Hp) : Prop where
  frames : A.frames = some outer
  mod : Mod K mg base
  bs : ∀ b o, base.get? b = some o → s.heap.get? b = some o ∧ H b = none
  bsz : base.objs.size ≤ s.heap.objs.size
  funs : s.heap.FunFrames base outer
  frf : ∀ b ∈ frs outer, H b = none
  hok : HOk P w H s.heap
  bare : AllBare s.gens
def CE (outer : List Env) (P : Program) (w : World) (H : Hp) (s : Shared) (Q : VK) (u : Value) (s' : Shared) : Prop :=
  ∃ v H', s'.os = s.os ∧ AllBare s'.gens ∧ Un (frs outer) [] H H' s.heap s'.heap ∧ HOk P w H' s'.heap ∧ RelV v u ∧ Q v H'
def CR (CX : CXT) (outer : List Env) (P : Program) (w : World) (H : Hp) (s : Shared) (Q : VK) (E : XK) (r : Result) (s' : Shared) : Prop :=
  match r with
  | .ok (.ret u) => CE outer P w H s Q u s'
  | .ok _ => False
  | .error e => CX outer H s E e s'
structure FnOk (P : Program) (w : World) (K : PySem.W.Frag) (mg : Str → Option Value) (base : Heap) (CX : CXT) (k : Nat) (f : Addr) (fd : FuncData) (ps : List Str) (sp : Sp) : Prop where
  len : ∀ vs H Q E, sp vs H Q E → vs.length = ps.length
  run : ∀ (A : Around) (outer : List Env) (s : Shared) (H : Hp) (args : Args) (us : List Value) (vs : List V) (Q : VK) (E : XK), Room k A → Env0 P w K mg base A outer s H → BindsTo s fd args (ps.zip us) → Vals vs us → sp vs H Q E →
    codeAny (model P w) A (.call (.ref f) args) (CR CX outer P w H s Q E) s
theorem FnOk.mono {P : Program} {w : World} {K : PySem.W.Frag} {mg : Str → Option Value} {base : Heap} {CX : CXT} {j k : Nat} {f : Addr} {fd : FuncData} {ps : List Str} {sp : Sp} (F : FnOk P w K mg base CX j f fd ps sp) (h : j ≤ k) :
    FnOk P w K mg base CX k f fd ps sp := ⟨F.len, fun A outer s H args us vs Q E hr => F.run A outer s H args us vs Q E (hr.mono h)⟩
theorem Env0.make {P : Program} {w : World} {K : PySem.W.Frag} {mg : Str → Option Value} {base : Heap} {A : Around} {outer : List Env} {s : Shared} {H : Hp} (e : Env0 P w K mg base A outer s H) (C : Addr) (us : List Value) (kw : List (Str × Value)) :
    Env0 P w K mg base (A.under (.builtin "type.__call__" ⟨.ref C :: us, kw⟩)) outer s H := ⟨by first | exact e.frames | (simpa [Around.under, Code.envs, Code.isFrame, pushEnvs] using e.frames), e.mod, e.bs, e.bsz, e.funs, e.frf, e.hok, e.bare⟩
section
variable {X : Cx} {pins : List (Addr × Obj)} {σ : St} {H : Hp} {s s' : Shared}
theorem Inv.env0 (I : Inv X pins σ H s) : Env0 X.prog X.w X.K X.mg X.base X.A X.stack s H :=
  ⟨I.ok.frames, I.ok.mod, I.bs, Nat.le_trans I.ok.bsz I.sz, I.stack, I.stkFree, I.hok, I.bare⟩
theorem Inv.after {Q : VK} {u : Value} (I : Inv X pins σ H s) (h : CE X.stack X.prog X.w H s Q u s') : EP X pins σ Q u s' := by
  obtain ⟨v, H', os, bare, un, hok, r, q⟩ := h
  obtain ⟨hh, g, d, t, os'⟩ := s'
  obtain rfl : os' = s.os := os
  exact ⟨v, H', I.call (h' := hh) (g' := g) (d' := d) (t' := t) (ch := []) un hok bare (fun b z => absurd z (by simp)), r, q⟩
end
def tCall (sp : Sp) (dvs : List V) (E : XK) (t : TA) : TE := fun σ H Q => t σ H fun vs H1 => sp (vs ++ dvs) H1 Q E
def tMeth (C : Addr) (m : Str) (sp : Sp) (dvs : List V) (E : XK) (ta : TE) (t : TA) : TE := fun σ H Q => ta σ H fun x H1 => ∃ a dx fs, x = .ref a ∧ H1 a = some (.ins C dx fs) ∧ fs.lookup m = none ∧
  t σ H1 fun vs H2 => sp (x :: (vs ++ dvs)) H2 Q E
def tMake (C : Addr) (sp : Sp) (dvs : List V) (E : XK) (t : TA) : TE := fun σ H Q => t σ H fun vs H1 => ∀ x dx, H1 x = none → H1 dx = none → dx ≠ x →
  sp (.ref x :: (vs ++ dvs)) (upd (upd H1 dx (.own x)) x (.ins C dx [])) (fun v H2 => v = .non ∧ Q (.ref x) H2) E
def Binds (K : PySem.W.Frag) (fd : FuncData) (ps : List Str) (ds : List Value) : Prop :=
  ∀ (s : Shared) (us : List Value), K.In s.heap → (us ++ ds).length = ps.length → BindsTo s fd ⟨us, []⟩ (ps.zip (us ++ ds))
theorem Binds.all {K : PySem.W.Frag} {fd : FuncData} {ps : List Str} (h : ∀ us : List Value, us.length = ps.length → bindArgs fd ⟨us, []⟩ = pure (ps.zip us)) : Binds K fd ps [] := fun s us _ hl => by
  rw [List.append_nil] at hl ⊢
  exact .of_eq (h us hl)
def Passes (CX : CXT) (X : Cx) (E : XK) : Prop := ∀ (pins : List (Addr × Obj)) (σ : St) (H : Hp) (s : Shared) (e : Value) (s' : Shared), Inv X pins σ H s → CX X.stack H s E e s' → X.xe e s'
section
variable {X : Cx} {CX : CXT} {k : Nat} {f C : Addr} {fd : FuncData} {ps : List Str} {sp : Sp} {dvs : List V} {ds : List Value} {E : XK} {x m : Str} {p pos apos : Pos} {e o : Expr} {es : List Expr} {ta : TE} {t : TA}
theorem run_fn {pins : List (Addr × Obj)} {σ : St} {H : Hp} {s : Shared} {Q : VK} {us : List Value} {vs : List V} (F : FnOk X.prog X.w X.K X.mg X.base CX k f fd ps sp) (hr : Room k X.A) (hb : Binds X.K fd ps ds) (hd : Vals dvs ds) (hx : Passes CX X E)
    (I : Inv X pins σ H s) (r : Vals vs us) (h : sp (vs ++ dvs) H Q E) : wpAny (model X.prog X.w) X.A (call (.ref f) us) (EP X pins σ Q) X.xe s := by
  have r2 : Vals (vs ++ dvs) (us ++ ds) := r.append hd
  have hl : (us ++ ds).length = ps.length := by rw [← r2.length]; exact F.len _ _ _ _ h
  refine wpAny_call (codeAny_mono (F.run X.A X.stack s H ⟨us, []⟩ (us ++ ds) (vs ++ dvs) Q E hr I.env0 (hb s us I.kIn hl) r2 h) fun r s' hq => ?_)
  cases r with
  | error e => exact hx pins σ H s e s' I hq
  | ok fl =>
    cases fl with
    | ret u => exact I.after hq
    | next => exact False.elim hq
    | brk => exact False.elim hq
    | cont => exact False.elim hq
theorem pe_call (F : FnOk X.prog X.w X.K X.mg X.base CX k f fd ps sp) (hr : Room k X.A) (hg : Gl X x) (hm : X.mg x = some (.ref f)) (hk : PySem.W.keepIn X.K (.ref f) = true) (hb : Binds X.K fd ps ds) (hd : Vals dvs ds) (hx : Passes CX X E)
    (ha : PA X (e :: es) t) (hdb : (x == ("__debug__" : Str)) = false := by decide) (he : starEach (e :: es) X.env = (false, eval e X.env) :: starEach es X.env := by rfl) (hpl : (backTo pos (starEach es X.env)).any (·.1) = false := by rfl) :
    PE X (.Call (.Name x p) (e :: es) [] pos) (tCall sp dvs E t) := by
  intro pins s σ H Q I h
  refine wpAny_Call_Name_kw (ld_glob I hg hm ?_ hdb)
  refine PySem.W.callWith_K (h₀ := X.base) I.ok.mod.kin hk (thn (ha pos pins s σ H _ I h) fun us s1 ⟨vs, H1, I1, r, q⟩ => ⟨I1.kIn, ?_⟩) he hpl
  exact run_fn F hr hb hd hx I1 r q
theorem pe_meth {pl : Sem Bool} (he : PE X o ta) (c : Cls X.K C) (hm : Meth X.K C m f) (F : FnOk X.prog X.w X.K X.mg X.base CX k f fd ps sp) (hr : Room k X.A) (hb : Binds X.K fd ps ds) (hd : Vals dvs ds) (hx : Passes CX X E) (ha : PA X (e :: es) t)
    (hst : starEach (e :: es) X.env = (false, eval e X.env) :: starEach es X.env := by rfl) (hpl : (backTo pos (starEach es X.env)).any (·.1) = false := by rfl)
    (ht : eval (.Call (.Attribute o m apos) (e :: es) [] pos) X.env = (do
      let ov ← eval o X.env
      standAt apos.atName
      let (f, first) ← holding [ov] (getMethod ov m pl)
      callWith pos f first (backTo pos (starEach (e :: es) X.env)) (backToKw pos (keywordEach [] X.env))) := by rfl) :
    PE X (.Call (.Attribute o m apos) (e :: es) [] pos) (tMeth C m sp dvs E ta t) := by
  intro pins s σ H Q I h
  refine PySem.W.methodCall_KW (pl := pl) (thn (he pins s σ H _ I h) fun u s1 ⟨x, H1, I1, rx, a, dx, fs, ex, ea, l, q⟩ => ?_) ht
  subst ex
  obtain rfl : u = Value.ref a := rx
  refine getmeth_ok I1 ea c hm l ?_
  refine PySem.W.callWith_K (first := [.ref a]) (h₀ := X.base) I.ok.mod.kin hm.kp (thn (ha pos pins s1 σ H1 _ I1 q) fun us s2 ⟨vs, H2, I2, r, q2⟩ => ⟨I2.kIn, ?_⟩) hst hpl
  exact run_fn (us := .ref a :: us) (vs := .ref a :: vs) F hr hb hd hx I2 (.cons rfl r) q2
theorem pe_meth0 {pl : Sem Bool} (he : PE X o ta) (c : Cls X.K C) (hm : Meth X.K C m f) (F : FnOk X.prog X.w X.K X.mg X.base CX k f fd ps sp) (hr : Room k X.A) (hb : Binds X.K fd ps ds) (hd : Vals dvs ds) (hx : Passes CX X E)
    (ht : eval (.Call (.Attribute o m apos) [] [] pos) X.env = (do
      let ov ← eval o X.env
      standAt apos.atName
      let (f, first) ← holding [ov] (getMethod ov m pl)
      callWith pos f first (backTo pos (starEach [] X.env)) (backToKw pos (keywordEach [] X.env))) := by rfl) :
    PE X (.Call (.Attribute o m apos) [] [] pos) (tMeth C m sp dvs E ta tNil) := by
  intro pins s σ H Q I h
  refine PySem.W.methodCall_KW (pl := pl) (thn (he pins s σ H _ I h) fun u s1 ⟨x, H1, I1, rx, a, dx, fs, ex, ea, l, q⟩ => ?_) ht
  subst ex
  obtain rfl : u = Value.ref a := rx
  refine getmeth_ok I1 ea c hm l ?_
  exact PySem.W.callWith_K0 (first := [.ref a]) I1.kIn hm.kp (run_fn (us := [.ref a]) (vs := [.ref a]) F hr hb hd hx I1 (.cons rfl .nil) q)
structure Mk (K : PySem.W.Frag) (C f : Addr) : Prop where
  makes : PySem.W.makesIn K C = true
  init : PySem.W.findIn K (.ref C) "__init__" = some (some (.ref f))
  fn : PySem.W.isFn K (.ref f) = true
  kp : PySem.W.keepIn K (.ref C) = true
theorem run_make {pins : List (Addr × Obj)} {σ : St} {H : Hp} {s : Shared} {Q : VK} {us : List Value} {vs : List V} (M : Mk X.K C f) (F : FnOk X.prog X.w X.K X.mg X.base CX k f fd ps sp) (hr : Room (k + 1) X.A) (hb : Binds X.K fd ps ds) (hd : Vals dvs ds)
    (hx : Passes CX X E) (I : Inv X pins σ H s) (r : Vals vs us)
    (h : ∀ x dx, H x = none → H dx = none → dx ≠ x → sp (.ref x :: (vs ++ dvs)) (upd (upd H dx (.own x)) x (.ins C dx [])) (fun v H2 => v = .non ∧ Q (.ref x) H2) E) :
    wpAny (model X.prog X.w) X.A (call (.ref C) us) (EP X pins σ Q) X.xe s := by
  have hq := h (s.heap.objs.size + 1) s.heap.objs.size (I.hok.fresh (Nat.le_succ _)) (I.hok.fresh (Nat.le_refl _)) (Nat.ne_of_lt (Nat.lt_succ_self _))
  have I2 := Inv.made (C := C) I
  have r2 : Vals (V.ref (s.heap.objs.size + 1) :: (vs ++ dvs)) (Value.ref (s.heap.objs.size + 1) :: (us ++ ds)) := .cons rfl (r.append hd)
  have hl : (Value.ref (s.heap.objs.size + 1) :: us ++ ds).length = ps.length := by
    have e := r2.length
    rw [F.len _ _ _ _ hq] at e
    exact e.symm
  refine wpAny_call (make_map (f := f) I.kIn M.makes M.init (beq_iff_eq.mp M.fn) (codeAny_mono (F.run _ X.stack _ _ ⟨Value.ref (s.heap.objs.size + 1) :: us, []⟩ (Value.ref (s.heap.objs.size + 1) :: (us ++ ds)) _ _ E (hr.make C us [])
    (I2.env0.make C us []) (hb _ (Value.ref (s.heap.objs.size + 1) :: us) I2.kIn hl) r2 hq) fun r s' hq' => ?_))
  cases r with
  | error e => exact hx pins σ _ _ e s' I2 hq'
  | ok fl =>
    cases fl with
    | ret u =>
      obtain ⟨v, H', I3, rv, ev, q3⟩ := I2.after hq'
      subst ev
      exact ⟨rv, ⟨V.ref (s.heap.objs.size + 1), H', I3, rfl, q3⟩⟩
    | next => exact False.elim hq'
    | brk => exact False.elim hq'
    | cont => exact False.elim hq'
theorem pe_make (M : Mk X.K C f) (F : FnOk X.prog X.w X.K X.mg X.base CX k f fd ps sp) (hr : Room (k + 1) X.A) (hg : Gl X x) (hm : X.mg x = some (.ref C)) (hb : Binds X.K fd ps ds) (hd : Vals dvs ds) (hx : Passes CX X E)
    (ha : PA X (e :: es) t) (hdb : (x == ("__debug__" : Str)) = false := by decide) (he : starEach (e :: es) X.env = (false, eval e X.env) :: starEach es X.env := by rfl) (hpl : (backTo pos (starEach es X.env)).any (·.1) = false := by rfl) :
    PE X (.Call (.Name x p) (e :: es) [] pos) (tMake C sp dvs E t) := by
  intro pins s σ H Q I h
  refine wpAny_Call_Name_kw (ld_glob I hg hm ?_ hdb)
  refine PySem.W.callWith_K (h₀ := X.base) I.ok.mod.kin M.kp (thn (ha pos pins s σ H _ I h) fun us s1 ⟨vs, H1, I1, r, q⟩ => ⟨I1.kIn, ?_⟩) he hpl
  exact run_make M F hr hb hd hx I1 r q
end
section
variable {X : Cx} {CX : CXT} {k : Nat} {f C : Addr} {fd : FuncData} {ps ks : List Str} {sp : Sp} {E : XK} {x m : Str} {p pos apos kpos : Pos} {e o : Expr} {es : List Expr} {kws : List Keyword} {te ta : TE} {t tk : TA} {nm : Option Str}
variable {g : List Value → List Value → List Value} {gV : List V → List V → List V}
end
structure FnScope (N P : List Str) (sc : Scope) : Prop where
  kind : sc.kind = .function
  co : sc.isCoroutine = false
  gen : sc.isGenerator = false
  nd : N.Nodup
  pre : N.take P.length = P
  par : ∀ x ∈ P, sc.names.lookup x = some .local ∨ sc.names.lookup x = some .cell
  nofree : ∀ y ∈ sc.names, y.2 ≠ .free
theorem bindL_out {kindOf : Str → Option NameKind} {x : Str} : ∀ {binds : List (Str × Value)} {m : Str → Option Value}, (∀ v, (x, v) ∉ binds) → bindL kindOf binds m x = m x
  | [], _, _ => rfl
  | (n, v) :: r, m, h => by
    unfold bindL
    rw [bindL_out fun w hw => h w (List.mem_cons_of_mem _ hw)]
    split
    · have : x ≠ n := by rintro rfl; exact h v List.mem_cons_self
      simp [this]
    · rfl
theorem bindC_out {kindOf : Str → Option NameKind} {x : Str} : ∀ {binds : List (Str × Value)} {m : Str → Option Value}, (∀ v, (x, v) ∉ binds) → bindC kindOf binds m x = m x
  | [], _, _ => rfl
  | (n, v) :: r, m, h => by
    unfold bindC
    rw [bindC_out fun w hw => h w (List.mem_cons_of_mem _ hw)]
    split
    · rfl
    · have : x ≠ n := by rintro rfl; exact h v List.mem_cons_self
      simp [this]
theorem bindL_get {kindOf : Str → Option NameKind} {x : Str} {v : Value} : ∀ {P : List Str} {vs : List Value} {i : Nat} {m : Str → Option Value}, P.Nodup → P[i]? = some x → vs[i]? = some v → kindOf x = some .local →
    bindL kindOf (P.zip vs) m x = some v
  | [], _, _, _, _, h, _, _ => by simp at h
  | _ :: _, [], _, _, _, _, h, _ => by simp at h
  | p :: P, w :: vs, 0, m, nd, h1, h2, hk => by
    simp at h1 h2; subst h1; subst h2
    show bindL kindOf ((p, w) :: P.zip vs) m p = _
    unfold bindL
    rw [bindL_out fun v hv => (List.nodup_cons.mp nd).1 (List.of_mem_zip hv).1, if_pos hk]
    simp
  | p :: P, w :: vs, i + 1, m, nd, h1, h2, hk => by
    show bindL kindOf ((p, w) :: P.zip vs) m x = _
    unfold bindL
    exact bindL_get (i := i) (List.nodup_cons.mp nd).2 (by simpa using h1) (by simpa using h2) hk
theorem bindC_get {kindOf : Str → Option NameKind} {x : Str} {v : Value} : ∀ {P : List Str} {vs : List Value} {i : Nat} {m : Str → Option Value}, P.Nodup → P[i]? = some x → vs[i]? = some v → kindOf x ≠ some .local →
    bindC kindOf (P.zip vs) m x = some v
  | [], _, _, _, _, h, _, _ => by simp at h
  | _ :: _, [], _, _, _, _, h, _ => by simp at h
  | p :: P, w :: vs, 0, m, nd, h1, h2, hk => by
    simp at h1 h2; subst h1; subst h2
    show bindC kindOf ((p, w) :: P.zip vs) m p = _
    unfold bindC
    rw [bindC_out fun v hv => (List.nodup_cons.mp nd).1 (List.of_mem_zip hv).1, if_neg hk]
    simp
  | p :: P, w :: vs, i + 1, m, nd, h1, h2, hk => by
    show bindC kindOf ((p, w) :: P.zip vs) m x = _
    unfold bindC
    exact bindC_get (i := i) (List.nodup_cons.mp nd).2 (by simpa using h1) (by simpa using h2) hk
def start (N : List Str) (vs : List V) : St := vs.map some ++ List.replicate (N.length - vs.length) none
def cxOf (CX : CXT) (P : Program) (w : World) (K : PySem.W.Frag) (mg : Str → Option Value) (base : Heap) (N : List Str) (qual : Str) (scope : Scope) (f : Addr) (cd : Value) (A : Around) (outer : List Env) (s : Shared) (H : Hp) (E : XK) : Cx where
  prog := P
  w := w
  K := K
  mg := mg
  base := base
  A := A.deeper (envOfC qual scope s.heap.objs.size f cd)
  N := N
  s₀ := s
  H₀ := H
  env := envOfC qual scope s.heap.objs.size f cd
  outer := outer
  stack := envOfC qual scope s.heap.objs.size f cd :: outer
  ex := []
  calm := true
  fn := fun _ => true
  pn := []
  xe := fun e s' => wpAny (model P w) (A.deeper (envOfC qual scope s.heap.objs.size f cd)) (leaving (envOfC qual scope s.heap.objs.size f cd) e) (fun _ s'' => CX outer H s E e s'') (fun e' s'' => CX outer H s E e' s'') s'
theorem cell_has {sc : Scope} {n : Nat} {x : Str} (h : sc.names.lookup x = some .cell) : ∃ c, (cellsFrom n sc.names []).lookup x = some c := by
  have q := PySem.W.cellsFrom_some sc.names n [] (.inl h)
  exact Option.isSome_iff_exists.mp q
theorem inv_start {CX : CXT} {P : Program} {w : World} {K : PySem.W.Frag} {mg : Str → Option Value} {base : Heap} {N ps : List Str} {qual : Str} {scope : Scope} {f : Addr} {cd : Value} {A : Around} {outer : List Env} {s s1 : Shared} {H : Hp} {E : XK} {us : List Value} {vs : List V}
    (S : FnScope N ps scope) (hd : A.handled = none) (e0 : Env0 P w K mg base A outer s H) (hl : vs.length = ps.length) (r : Vals vs us)
    (x : InCallC s s.heap.objs.size (bindL (envOfC qual scope s.heap.objs.size f cd).kindOf (ps.zip us) fun _ => none) (cellsFrom (s.heap.objs.size + 1) scope.names []) (bindC (envOfC qual scope s.heap.objs.size f cd).kindOf (ps.zip us) fun _ => none) s1) :
    Inv (cxOf CX P w K mg base N qual scope f cd A outer s H E) [] (start N vs) H s1 := by
  have hpl : ps.length ≤ N.length := by have := congrArg List.length S.pre; rw [List.length_take] at this; omega
  obtain ⟨h1, tk, rfl, hk⟩ := x.done
  have noA : ∀ b : Addr, b ∉ (cxOf CX P w K mg base N qual scope f cd A outer s H E).ex := fun b z => absurd (show b ∈ ([] : List Addr) from z) (by simp)
  refine ⟨⟨e0.mod, S.kind, rfl, rfl, Nat.le_refl _, fun y z c h1 h2 => ?_, fun y hy => ?_, fun y c _ h => ?_, fun _ => hd, Around.frames_deeper e0.frames, .inr ⟨rfl, rfl⟩, fun b z => absurd z (noA b), e0.bs, e0.bsz, fun b _ _ => noA b, fun b z => absurd z (noA b), e0.funs, e0.frf⟩,
    rfl, e0.bare, Un.kept hk, ⟨_, x.toInCall.ns, fun i y v h1 h2 h3 => ?_⟩, fun y c h => ⟨_, x.cell y c h⟩, e0.hok.fresh (Nat.le_refl _), fun y c h => ?_, fun p hp => absurd (show p ∈ ([] : List (Addr × Obj)) from hp) (by simp), e0.hok.kept hk, ?_⟩
  · exact name_of_addr x.apart (PySem.mem_of_lookup h1) (PySem.mem_of_lookup h2)
  · have hy : scope.names.lookup y = some .cell ∨ scope.names.lookup y = some .free := hy
    rcases hy with hy | hy
    · exact cell_has hy
    · exact absurd rfl (S.nofree _ (PySem.mem_of_lookup hy))
  · exact Nat.le_of_lt (x.above y c (PySem.mem_of_lookup h))
  · have hi : i < vs.length := by
      unfold start at h2
      by_cases hi : i < vs.length
      · exact hi
      · rw [List.getElem?_append_right (by simpa using hi)] at h2
        rw [List.getElem?_replicate] at h2
        split at h2 <;> cases h2
    have ha : vs[i]? = some v := by
      unfold start at h2
      rw [List.getElem?_append_left (by simpa using hi), List.getElem?_map] at h2
      cases e : vs[i]? with
      | none => rw [e] at h2; cases h2
      | some a => rw [e] at h2; cases h2; rfl
    obtain ⟨u, hu, rv⟩ := r.get ha
    have hp : ps[i]? = some y := by
      rw [← S.pre, List.getElem?_take_of_lt (by omega)]; exact h1
    have ndP : ps.Nodup := by rw [← S.pre]; exact S.nd.sublist (List.take_sublist _ _)
    refine ⟨u, rv, ?_⟩
    rcases S.par y (List.mem_of_getElem? hp) with k | k
    · exact .inl ⟨k, bindL_get ndP hp hu k⟩
    · obtain ⟨c, e⟩ := cell_has (n := s.heap.objs.size + 1) k
      refine .inr ⟨.inl k, c, e, ?_⟩
      have q := x.cell y c e
      rw [bindC_get ndP hp hu (by show scope.names.lookup y ≠ _; rw [k]; decide)] at q
      exact q
  · exact e0.hok.fresh (Nat.le_of_lt (x.above y c (PySem.mem_of_lookup h)))
  · unfold start
    show _ = N.length
    rw [List.length_append, List.length_map, List.length_replicate]
    omega
theorem fn_of {CX : CXT} {P : Program} {w : World} {K : PySem.W.Frag} {mg : Str → Option Value} {base : Heap} {k : Nat} {f : Addr} {name qual : Str} {params : Arguments} {body : List Stmt} {scope : Scope} {dV kV doc pm cdv ct oc : Value} {an od : Option Addr}
    {osl : Array (Option Value)} {N ps : List Str} {sp : Sp} (lk : K.lookup f = some ⟨oc, od, .func (PySem.W.fnOf name qual params body scope dV kV doc pm an cdv ct), osl⟩) (hcd : PySem.W.codeIn K cdv qual = true) (S : FnScope N ps scope)
    (len : ∀ vs H Q E, sp vs H Q E → vs.length = ps.length)
    (hbody : ∀ (A : Around) (outer : List Env) (s : Shared) (H : Hp) (vs : List V) (Q : VK) (E : XK), Room k (A.deeper (envOfC qual scope s.heap.objs.size f cdv)) → sp vs H Q E →
      ∃ t, PSs (cxOf CX P w K mg base N qual scope f cdv A outer s H E) body t ∧ t { nx := fun _ H' => Q .non H', rt := Q } (start N vs) H) :
    FnOk P w K mg base CX (k + 1) f (PySem.W.fnOf name qual params body scope dV kV doc pm an cdv ct) ps sp := by
  refine ⟨len, fun A outer s H args us vs Q E hr e0 hb r hsp => ?_⟩
  have hl := len _ _ _ _ hsp
  have KX : K.In s.heap := e0.mod.kin.keeps fun b o e => (e0.bs b o e).1
  have lim : s.heap.NoLimit := e0.mod.nolimit.keeps fun b o e => (e0.bs b o e).1
  have hkind : ∀ y ∈ ps.zip us, scope.names.lookup y.1 = some .local ∨ (scope.names.lookup y.1 = some .cell ∧ ((cellsFrom (s.heap.objs.size + 1) scope.names []).lookup y.1).isSome = true) := fun ⟨n, v⟩ hy => by
    rcases S.par n (List.of_mem_zip hy).1 with q | q
    · exact .inl q
    · exact .inr ⟨q, PySem.W.cellsFrom_some _ _ _ (.inl q)⟩
  refine codeAny_call_function hr.depth (KX _ _ lk) rfl S.co S.gen rfl (PySem.W.codeRec_of KX hcd) (hb _ _ _ _ ?_)
  refine wpAny_newFunctionEnv_cells S.kind hkind fun env he s1 x => ?_
  subst he
  refine ⟨lim.keeps x.toInCall.keep, codeAny_func ?_⟩
  obtain ⟨t, ht, hq⟩ := hbody A outer s H vs Q E (hr.deeper _) hsp
  have I : Inv (cxOf CX P w K mg base N qual scope f cdv A outer s H E) [] (start N vs) H s1 := inv_start S hr.hd e0 hl r x
  refine wpAny_mono (ht [] s1 (start N vs) H _ I hq) (fun fl s' hs => ?_) fun e s' hs => hs
  have fin : ∀ {σ' : St} {H' : Hp} {v : V} {u : Value}, Inv (cxOf CX P w K mg base N qual scope f cdv A outer s H E) [] σ' H' s' → RelV v u → Q v H' → CE outer P w H s Q u s' :=
    fun {σ' H' v u} J rv q => ⟨v, H', J.os, J.bare, J.base, J.hok, rv, q⟩
  cases fl with
  | ret u =>
    obtain ⟨v, σ', H', J, rv, q⟩ := hs
    exact fin J rv q
  | next =>
    obtain ⟨σ', H', J, q⟩ := hs
    exact fin (v := V.non) (u := Value.none) J rfl q
  | brk =>
    obtain ⟨_, _, _, q⟩ := hs
    exact False.elim q
  | cont =>
    obtain ⟨_, _, _, q⟩ := hs
    exact False.elim q
end L2
namespace L2
open PySem PySem.Spec PyProof.Rows
section
variable {X : Cx} {x : Str} {p pos : Pos} {e : Expr} {es : List Expr} {t : TA} {id T : String} {r : List V → Hp → VK → Prop}
def tCB (r : List V → Hp → VK → Prop) (t : TA) : TE := fun σ H Q => t σ H fun vs H1 => r vs H1 Q
theorem pe_callB (hc : CallR X (.builtin id) r) (hg : Gl X x) (hm : X.mg x = none) (hv : bootBuiltins x = some (.builtin id)) (ha : PA X (e :: es) t) (hn : x ≠ "__name__" := by decide) (hdb : (x == ("__debug__" : Str)) = false := by decide)
    (he : starEach (e :: es) X.env = (false, eval e X.env) :: starEach es X.env := by rfl) (hpl : (backTo pos (starEach es X.env)).any (·.1) = false := by rfl) : PE X (.Call (.Name x p) (e :: es) [] pos) (tCB r t) := by
  intro pins s σ H Q I h
  refine wpAny_Call_Name_kw (ld_blt I hg hm hv ?_ hn hdb)
  exact PyProof.Rows.callWith_builtin1 (thn (ha pos pins s σ H _ I h) fun us s1 ⟨vs, H1, I1, r1, q1⟩ => hc pins s1 σ H1 vs us Q I1 r1 q1) he hpl
theorem pe_callTy (hc : CallR X (.type T) r) (hg : Gl X x) (hm : X.mg x = none) (hv : bootBuiltins x = some (.type T)) (ha : PA X (e :: es) t) (hn : x ≠ "__name__" := by decide) (hdb : (x == ("__debug__" : Str)) = false := by decide)
    (he : starEach (e :: es) X.env = (false, eval e X.env) :: starEach es X.env := by rfl) (hpl : (backTo pos (starEach es X.env)).any (·.1) = false := by rfl) : PE X (.Call (.Name x p) (e :: es) [] pos) (tCB r t) := by
  intro pins s σ H Q I h
  refine wpAny_Call_Name_kw (ld_blt I hg hm hv ?_ hn hdb)
  exact PyProof.Rows.callWith_type1 (thn (ha pos pins s σ H _ I h) fun us s1 ⟨vs, H1, I1, r1, q1⟩ => hc pins s1 σ H1 vs us Q I1 r1 q1) he hpl
end
end L2
namespace HT
open PySem PyProof.Rows
section
open PySem.SeqAt
open PySem.AutoSeq1 (wpAny_loadPart')
open PySem.MeetsSeq PySem.MeetsSeq2 PySem.MeetsSeq3
end
section
variable {prog : Program} {w : World} {A : Around} {E : Value → Shared → Prop} {s : Shared}
def sIx (n d : Nat) : Option Int → Nat
  | none => d
  | some v => if v < 0 then (v + (n : Int)).toNat else min v.toNat n
theorem sIx_none (n d : Nat) : sIx n d none = d := rfl
theorem sIx_nat (n d k : Nat) : sIx n d (some (k : Int)) = min k n := by
  show (if (k : Int) < 0 then ((k : Int) + (n : Int)).toNat else min (k : Int).toNat n) = min k n
  rw [if_neg (by omega), Int.toNat_natCast]
end
end HT
namespace L2
open PySem PySem.Spec PyProof.Rows
abbrev TO := St → Hp → (Option Int → Hp → Prop) → Prop
def PO (X : Cx) (e : Option Expr) (t : TO) : Prop :=
  ∀ (pins : List (Addr × Obj)) (s : Shared) (σ : St) (H : Hp) (Q : Option Int → Hp → Prop), Inv X pins σ H s → t σ H Q →
    wpAny (model X.prog X.w) X.A (evalPart e X.env) (fun u s' => ∃ o H', Inv X pins σ H' s' ∧ IsPart u o ∧ Q o H') X.xe s
def tNoPart : TO := fun _ H Q => Q none H
def tPart (t : TE) : TO := fun σ H Q => t σ H fun x H1 => ∃ i, x = .int i ∧ Q (some i) H1
section
variable {X : Cx} {e : Expr} {te : TE} {lo hi : Option Expr} {tl th : TO} {pos p2 : Pos}
theorem po_none : PO X none tNoPart := by
  intro pins s σ H Q I h
  rw [evalPart_none]
  exact wpAny_pure ⟨none, H, I, .none, h⟩
theorem po_some (h : PE X e te) : PO X (some e) (tPart te) := by
  intro pins s σ H Q I hw
  rw [evalPart_some]
  refine thn (h pins s σ H _ I hw) fun u s1 ⟨x, H1, I1, r1, q1⟩ => ?_
  obtain ⟨i, rfl, q⟩ := q1
  obtain ⟨t, rfl⟩ := r1
  exact ⟨some i, H1, I1, .int i t, q⟩
def SlR (X : Cx) (r : V → Option Int → Option Int → Hp → VK → Prop) : Prop :=
  ∀ (pins : List (Addr × Obj)) (s : Shared) (σ : St) (H : Hp) (x : V) (v vl vu : Value) (lo hi : Option Int) (sl : Addr) (Q : VK), Inv X pins σ H s → RelV x v → s.heap.IsSliceOf sl vl vu .none → IsPart vl lo → IsPart vu hi → r x lo hi H Q →
    ∃ T id, typeLookup (.type T) "__getitem__" = pure (some (.builtin id)) ∧ s.TypeIs v T ∧ wpAny (model X.prog X.w) X.A (getItem v (.ref sl)) (EP X pins σ Q) X.xe s
def tSl (r : V → Option Int → Option Int → Hp → VK → Prop) (te : TE) (tl th : TO) : TE := fun σ H Q => te σ H fun x H1 => tl σ H1 fun l H2 => th σ H2 fun u H3 => r x l u H3 Q
theorem pe_slice {r : V → Option Int → Option Int → Hp → VK → Prop} (hr : SlR X r) (he : PE X e te) (hl : PO X lo tl) (hu : PO X hi th) : PE X (.Subscript e (.Slice lo hi none p2) pos) (tSl r te tl th) := by
  intro pins s σ H Q I h
  refine Subscript_ (thn (he pins s σ H _ I h) fun v s1 ⟨x, H1, I1, r1, q1⟩ => ?_)
  refine wpAny_Slice (thn (hl pins s1 σ H1 _ I1 q1) fun vl s2 ⟨l, H2, I2, pl, q2⟩ => thn (hu pins s2 σ H2 _ I2 q2) fun vu s3 ⟨u, H3, I3, pu, q3⟩ => ?_)
  rw [evalPart_none]
  refine wpAny_pure ?_
  have I4 : Inv X pins σ H3 { s3 with heap := s3.heap.push { cls := .type "slice", data := .fields #[vl, vu, .none] } } := I3.kept (t' := s3.toks) fun b ob q => Heap.get?_push_of_some _ q
  obtain ⟨T, id, hT, ht, hg⟩ := hr pins { s3 with heap := s3.heap.push { cls := .type "slice", data := .fields #[vl, vu, .none] } } σ H3 x v vl vu l u s3.heap.objs.size Q I4 r1 (Heap.IsSliceOf.new ..) pl pu q3
  show wpAny (model X.prog X.w) X.A (subscriptTail e (.Slice lo hi none p2) v (.ref s3.heap.objs.size)) (EP X pins σ Q) X.xe { s3 with heap := s3.heap.push { cls := .type "slice", data := .fields #[vl, vu, .none] } }
  exact tail_any (ops := [.ref s3.heap.objs.size, v]) ht hT hg (by with_unfolding_all rfl)
def cutV (xs : List V) (lo hi : Option Int) : List V := (xs.drop (HT.sIx xs.length 0 lo)).take (HT.sIx xs.length xs.length hi - HT.sIx xs.length 0 lo)
theorem cutV_length (xs : List V) (lo hi : Option Int) : (cutV xs lo hi).length ≤ xs.length := by
  unfold cutV
  rw [List.length_take, List.length_drop]
  omega
end
end L2
namespace L2
open PySem PySem.Spec PyProof.Rows
def ixN (n : Nat) (i : Int) : Option Nat := if 0 ≤ i then (if i < n then some i.toNat else none) else if -(n : Int) ≤ i then some (i + n).toNat else none
def atI {α : Type} (xs : List α) (i : Int) : Option α := (ixN xs.length i).bind fun j => xs[j]?
theorem ixN_seq {n : Nat} {i : Int} {j : Nat} (h : ixN n i = some j) : seqIndex? i n = some j ∧ j < n ∧ -(n : Int) ≤ i ∧ i < n := by
  unfold ixN at h
  by_cases h0 : 0 ≤ i
  · rw [if_pos h0] at h
    by_cases h1 : i < n
    · rw [if_pos h1] at h
      have e : i.toNat = j := Option.some.inj h
      exact ⟨by rw [seqIndex_of h0 h1, e], by omega, by omega, h1⟩
    · rw [if_neg h1] at h; cases h
  · rw [if_neg h0] at h
    by_cases h1 : -(n : Int) ≤ i
    · rw [if_pos h1] at h
      have e : (i + n).toNat = j := Option.some.inj h
      exact ⟨by rw [seqIndex_neg (by omega) h1, e], by omega, h1, by omega⟩
    · rw [if_neg h1] at h; cases h
theorem atI_get {α : Type} {xs : List α} {i : Int} {v : α} (h : atI xs i = some v) : ∃ j, seqIndex? i xs.length = some j ∧ xs[j]? = some v ∧ j < xs.length ∧ -(xs.length : Int) ≤ i ∧ i < xs.length := by
  unfold atI at h
  cases e : ixN xs.length i with
  | none => rw [e] at h; cases h
  | some j =>
    rw [e] at h
    obtain ⟨h1, h2, h3, h4⟩ := ixN_seq e
    exact ⟨j, h1, h, h2, h3, h4⟩
theorem atI_nat {α : Type} {xs : List α} {j : Nat} {v : α} (h : xs[j]? = some v) : atI xs (j : Int) = some v := by
  have hj : j < xs.length := (List.getElem?_eq_some_iff.mp h).1
  have e : ixN xs.length (j : Int) = some j := by
    unfold ixN
    rw [if_pos (by omega), if_pos (by omega)]; simp
  unfold atI; rw [e]; exact h
def PlainIx (b : Expr) : Prop := ∀ o i, subscripted b false o i = operate [o, i] (getItem o i)
def IxR (X : Cx) (r : R2) : Prop :=
  ∀ (value slice : Expr) (pins : List (Addr × Obj)) (s : Shared) (σ : St) (H : Hp) (x y : V) (v u : Value) (Q : VK), Inv X pins σ H s → RelV x v → RelV y u → r x y H Q →
    subscripted slice false v u = operate [v, u] (getItem v u) → wpAny (model X.prog X.w) X.A (subscriptTail value slice v u) (EP X pins σ Q) X.xe s
def MtR (X : Cx) (id : String) (r : V → List V → Hp → VK → Prop) : Prop :=
  ∀ (pins : List (Addr × Obj)) (s : Shared) (σ : St) (H : Hp) (x : V) (xs : List V) (v : Value) (us : List Value) (Q : VK), Inv X pins σ H s → RelV x v → Vals xs us → r x xs H Q →
    wpAny (model X.prog X.w) X.A (call (.builtin id) (v :: us)) (EP X pins σ Q) X.xe s
section
variable {X : Cx} {a b : Expr} {ta tb : TE} {pos : Pos}
theorem pe_ix {r : R2} (hr : IxR X r) (ha : PE X a ta) (hb : PE X b tb) (hs : PlainIx b) : PE X (.Subscript a b pos) (tOp r ta tb) := by
  intro pins s σ H Q I h
  exact Subscript_ (binT ha hb I h fun v u s2 x y H2 I2 rx ry q => hr a b pins s2 σ H2 x y v u Q I2 rx ry q (hs _ _))
def rIxL (K : PySem.W.Frag) : R2 := fun x y H Q => ∃ p xs i v, x = .ref p ∧ y = .int i ∧ SqL K H p xs ∧ atI xs i = some v ∧ Q v H
def rIxT (K : PySem.W.Frag) : R2 := fun x y H Q => ∃ p xs i v, x = .ref p ∧ y = .int i ∧ SqT K H p xs ∧ atI xs i = some v ∧ Q v H
theorem ix_list : IxR X (rIxL X.K) := by
  intro value slice pins s σ H x y v u Q I rx ry h hs
  obtain ⟨p, xs, i, z, rfl, rfl, hq, he, q⟩ := h
  cases rx
  obtain ⟨t, rfl⟩ := ry
  obtain ⟨its, r, pl, hz⟩ := I.list hq
  obtain ⟨j, h1, h2, h3, h4, h5⟩ := atI_get he
  obtain ⟨w, ew, rw'⟩ := r.get h2
  have hl := r.length
  have hn := line63
  have fin : EP X pins σ Q w s := ⟨z, H, I, rw', q⟩
  by_cases h0 : 0 ≤ i
  · have hj : i.toNat = j := by
      rw [seqIndex_of h0 h5] at h1
      exact Option.some.inj h1
    exact item_listR pl.isList h0 (by omega) (by rw [hj]; simpa using ew) fin hs
  · have hj : (i + (its.toArray.size : Int)).toNat = j := by
      rw [seqIndex_neg (by omega) h4] at h1
      rw [List.size_toArray, ← hl]
      exact Option.some.inj h1
    exact subscriptTail_builtinR (x := w) pl.isList.typeIs slot_list_getitem.lookup
      (wpAny_getItem_list_neg (Q := fun r s' => r = w ∧ EP X pins σ Q r s') pl.isList (by omega) (by rw [List.size_toArray] <;> omega) (by omega) (by rw [hj]; simpa using ew) ⟨rfl, fin⟩) hs
theorem ix_tup : IxR X (rIxT X.K) := by
  intro value slice pins s σ H x y v u Q I rx ry h hs
  obtain ⟨p, xs, i, z, rfl, rfl, hq, he, q⟩ := h
  cases rx
  obtain ⟨t, rfl⟩ := ry
  obtain ⟨its, r, pl, hz⟩ := I.tuple hq
  obtain ⟨j, h1, h2, h3, h4, h5⟩ := atI_get he
  obtain ⟨w, ew, rw'⟩ := r.get h2
  have hl := r.length
  have hn := line63
  have fin : EP X pins σ Q w s := ⟨z, H, I, rw', q⟩
  exact subscriptTail_builtinR (x := w) pl.typeIs slot_tuple_getitem.lookup
    (getItem_tuple (j := j) (Q := fun r s' => r = w ∧ EP X pins σ Q r s') pl (by omega) (by omega) (by rw [List.size_toArray, ← hl]; exact h1) (by simpa using ew) ⟨rfl, fin⟩) hs
theorem mapSeq_set (its : List Value) (n j : Nat) (u : Value) : Obj.mapSeq (·.setIfInBounds j u) { cls := .type "list", data := .seq its.toArray n } = { cls := .type "list", data := .seq (its.set j u).toArray n } := by
  simp [Obj.mapSeq]
theorem Inv.lst {pins : List (Addr × Obj)} {σ : St} {H : Hp} {s : Shared} {p : Addr} {xs : List V} (I : Inv X pins σ H s) (h : H p = some (.lst xs)) :
    ∃ (its : List Value) (n : Nat), Vals xs its ∧ s.heap.get? p = some { cls := .type "list", data := .seq its.toArray n } ∧ xs.length ≤ sizeLine := by
  obtain ⟨z, its, n, r, e⟩ := I.hok p _ h
  exact ⟨its, n, r, e, z⟩
theorem Inv.lstUpd {pins : List (Addr × Obj)} {σ : St} {H : Hp} {s : Shared} {p : Addr} {xs ys : List V} {its its' : List Value} {n n' : Nat} {f : Obj → Obj} (I : Inv X pins σ H s) (h : H p = some (.lst xs))
    (ho : s.heap.get? p = some { cls := .type "list", data := .seq its.toArray n }) (hf : f { cls := .type "list", data := .seq its.toArray n } = { cls := .type "list", data := .seq its'.toArray n' }) (r : Vals ys its') (hz : ys.length ≤ sizeLine) (t : Nat) :
    Inv X pins σ (upd H p (.lst ys)) { s with heap := s.heap.update p f, toks := t } := by
  have e : (s.heap.update p f).get? p = some { cls := .type "list", data := .seq its'.toArray n' } := by
    rw [Heap.get?_update_self f ho (by rw [hf] <;> rfl), hf]
  refine I.write (x := p) (e := p) (by rw [h]; trivial) (.inl rfl) (fun b u hb q => (Heap.get?_update_other _ _ (Ne.symm hb)).trans q) ⟨_, e⟩ ?_
  exact ⟨hz, its', n', r, e⟩
def rSetL : V → V → V → Hp → (Hp → Prop) → Prop := fun o i v H Q => ∃ p xs k j, o = .ref p ∧ i = .int k ∧ H p = some (.lst xs) ∧ ixN xs.length k = some j ∧ Q (upd H p (.lst (xs.set j v)))
theorem set_list : PSet X rSetL := by
  intro pins s σ H o i v ov iv u Q I ro ri rv h
  obtain ⟨p, xs, k, j, rfl, rfl, hp, hj, q⟩ := h
  cases ro
  obtain ⟨t, rfl⟩ := ri
  obtain ⟨its, n, r, ho, hz⟩ := I.lst hp
  obtain ⟨h1, h2, h3, h4⟩ := ixN_seq hj
  have hl := r.length
  have hn := line63
  have I' : Inv X pins σ (upd H p (.lst (xs.set j v))) { s with heap := s.heap.update p (Obj.mapSeq (·.setIfInBounds j u)) } :=
    I.lstUpd hp ho (mapSeq_set its n j u) (r.set rv j) (by rw [List.length_set]; exact hz) s.toks
  by_cases h0 : 0 ≤ k
  · have hk : k.toNat = j := by
      rw [seqIndex_of h0 h4] at h1
      exact Option.some.inj h1
    exact PySem.W.ki_setAt ho h0 (by omega) (by rw [List.size_toArray, ← hl]; exact h4) (by rw [hk]; exact ⟨_, I', q⟩)
  · have hk : (k + (its.toArray.size : Int)).toNat = j := by
      rw [seqIndex_neg (by omega) h3] at h1
      rw [List.size_toArray, ← hl]
      exact Option.some.inj h1
    exact PySem.W.ki_setBack ho (by omega) (by rw [List.size_toArray, ← hl]; exact h3) (by omega) (by rw [hk]; exact ⟨_, I', q⟩)
theorem slice_bounds (lo hi : Option Int) (n : Nat) : (sliceBounds lo hi none n).1 = ((HT.sIx n 0 lo : Nat) : Int) ∧ (sliceBounds lo hi none n).2.1 = ((HT.sIx n n hi : Nat) : Int) ∧ (sliceBounds lo hi none n).2.2 = 1 := by
  refine ⟨?_, ?_, rfl⟩
  · cases lo with
    | none => simp [sliceBounds, HT.sIx]
    | some i =>
      simp only [sliceBounds, HT.sIx, Option.getD_none, show (1 : Int) > 0 by decide, if_true]
      by_cases h : i < 0
      · simp only [h, if_true] <;> omega
      · simp only [h, if_false] <;> omega
  · cases hi with
    | none => simp [sliceBounds, HT.sIx]
    | some i =>
      simp only [sliceBounds, HT.sIx, Option.getD_none, show (1 : Int) > 0 by decide, if_true]
      by_cases h : i < 0
      · simp only [h, if_true] <;> omega
      · simp only [h, if_false] <;> omega
theorem slicePick_cut (its : List Value) (lo hi : Option Int) : slicePick its.toArray lo hi none = ((its.drop (HT.sIx its.length 0 lo)).take (HT.sIx its.length its.length hi - HT.sIx its.length 0 lo)).toArray := by
  obtain ⟨h1, h2, h3⟩ := slice_bounds lo hi its.toArray.size
  unfold slicePick
  rw [h1, h2, h3]
  simp only [sliceRange_one, pick_run, List.size_toArray] <;> rfl
def rSlL (K : PySem.W.Frag) : V → Option Int → Option Int → Hp → VK → Prop := fun x lo hi H Q => ∃ a xs, x = .ref a ∧ SqL K H a xs ∧ ∀ p, H p = none → Q (.ref p) (upd H p (.lst (cutV xs lo hi)))
theorem sl_list : SlR X (rSlL X.K) := by
  intro pins s σ H x v vl vu lo hi sl Q I rx hs pl pu h
  obtain ⟨a, xs, rfl, hx, q⟩ := h
  cases rx
  obtain ⟨its, r, ht, hz⟩ := I.list hx
  have hlen := r.length
  refine ⟨"list", _, slot_list_getitem.lookup, ht.isList.typeIs, ?_⟩
  refine wpAny_getItem_list_slice ht.isList hs pl pu .none (by simp) ?_ (by rw [List.size_toArray] <;> omega)
  rw [slicePick_cut, ← hlen]
  refine ⟨.ref s.heap.objs.size, _, I.laid (t' := s.toks) (o := .lst (cutV xs lo hi)) (fun b ob q => Heap.get?_push_of_some _ q) (Nat.le_refl _) ?_, rfl, q _ (I.hok.fresh (Nat.le_refl _))⟩
  exact ⟨Nat.le_trans (cutV_length xs lo hi) hz, _, 0, (r.drop (HT.sIx xs.length 0 lo)).take (HT.sIx xs.length xs.length hi - HT.sIx xs.length 0 lo), Heap.get?_push_size _ rfl⟩
def flatV : V → Bool
  | .non => true
  | .bl _ => true
  | .int _ => true
  | .str _ => true
  | _ => false
def eqV : V → V → Bool
  | .non, .non => true
  | .bl a, .bl b => a == b
  | .bl a, .int b => (if a then 1 else 0) == b
  | .int a, .bl b => a == (if b then 1 else 0)
  | .int a, .int b => a == b
  | .str a, .str b => a == b
  | _, _ => false
def inV (x : V) (xs : List V) : Bool := xs.any fun y => eqV y x
def rIn (K : PySem.W.Frag) (neg : Bool) : R2 := fun x y H Q => ∃ p xs, y = .ref p ∧ (SqL K H p xs ∨ SqT K H p xs) ∧ flatV x = true ∧ xs.all flatV = true ∧ Q (.bl (if neg then !inV x xs else inV x xs)) H
theorem call_len_seq : CallR X (.builtin "len") (fun xs H Q => ∃ p ys, xs = [.ref p] ∧ (SqL X.K H p ys ∨ SqT X.K H p ys) ∧ Q (.int ys.length) H) := by
  intro pins s σ H xs us Q I r h
  obtain ⟨p, ys, rfl, hq, q⟩ := h
  obtain ⟨u, rfl, rx⟩ := vals1 r
  cases rx
  have hn := line63
  rcases hq with hq | hq
  · obtain ⟨its, r', pl, hz⟩ := I.list hq
    have hlen := r'.length
    exact Calls.call_len_list pl.isList (by simp only [List.size_toArray] <;> omega) ⟨.int ys.length, H, I.tok _, ⟨s.toks + 1, by rw [List.size_toArray, hlen]⟩, q⟩
  · obtain ⟨its, r', pl, hz⟩ := I.tuple hq
    have hlen := r'.length
    exact len_tuple pl (by simp only [List.size_toArray] <;> omega) ⟨.int ys.length, H, I.tok _, ⟨s.toks + 1, by rw [List.size_toArray, hlen]⟩, q⟩
theorem call_list_of : CallR X (.type "list") (fun xs H Q => ∃ p ys, xs = [.ref p] ∧ (SqL X.K H p ys ∨ SqT X.K H p ys) ∧ ∀ l, H l = none → Q (.ref l) (upd H l (.lst ys))) := by
  intro pins s σ H xs us Q I r h
  obtain ⟨p, ys, rfl, hq, q⟩ := h
  obtain ⟨u, rfl, rx⟩ := vals1 r
  cases rx
  have fin : ∀ (its : List Value), Vals ys its → ys.length ≤ sizeLine → ∀ (h' : Heap) (c' : Nat), (∀ b o', s.heap.get? b = some o' → h'.get? b = some o') →
      h'.get? s.heap.objs.size = some { cls := .type "list", dict := none, data := .seq its.toArray c', slots := #[] } → EP X pins σ Q (.ref s.heap.objs.size) { s with heap := h' } := fun its r' hz h' c' kp e =>
    ⟨.ref s.heap.objs.size, _, I.laid (t' := s.toks) kp (Nat.le_refl _) (show ObjOk X.prog X.w _ h' _ (.lst ys) from ⟨hz, its, c', r', e⟩), rfl, q _ (I.hok.fresh (Nat.le_refl _))⟩
  rcases hq with hq | hq
  · obtain ⟨its, r', pl, hz⟩ := I.list hq
    have hlen := r'.length
    obtain ⟨o, ho, hc, n, hd⟩ := pl.isList
    exact call_list_seq p (.inl rfl) ho hc hd (fun h' c' kp e => fin its r' hz h' c' kp e) (by simp only [List.size_toArray] <;> omega)
  · obtain ⟨its, r', pl, hz⟩ := I.tuple hq
    have hlen := r'.length
    obtain ⟨o, ho, hc, n, hd⟩ := pl
    exact call_list_seq p (.inr rfl) ho hc hd (fun h' c' kp e => fin its r' hz h' c' kp e) (by simp only [List.size_toArray] <;> omega)
def tyV (K : PySem.W.Frag) (T : String) (x : V) (H : Hp) : Prop := match x with
  | .str _ => T = "str"
  | .int _ => T = "int"
  | .ref p => (T = "list" ∧ ∃ xs, SqL K H p xs) ∨ (T = "tuple" ∧ ∃ o, K.lookup p = some o ∧ o.cls = .type "tuple" ∧ o.dict = none) ∨
      (T = "dict" ∧ ((∃ kvs, H p = some (.dK kvs)) ∨ ∃ kvs, H p = some (.dT kvs))) ∨ (T = "set" ∧ ∃ S n, H p = some (.set S n))
  | _ => False
theorem tyV_is {pins : List (Addr × Obj)} {σ : St} {H : Hp} {s : Shared} {T : String} {x : V} {v : Value} (I : Inv X pins σ H s) (r : RelV x v) (ty : tyV X.K T x H) :
    s.TypeIs v T ∧ ∀ a, v = .ref a → ∃ ob, s.heap.get? a = some ob ∧ ob.dict = none := by
  cases x with
  | str z =>
    obtain ⟨t, rfl⟩ := r
    cases (show T = "str" from ty)
    exact ⟨typeIs_str s z t, fun _ e => nomatch e⟩
  | int i =>
    obtain ⟨t, rfl⟩ := r
    cases (show T = "int" from ty)
    exact ⟨typeIs_int s i t, fun _ e => nomatch e⟩
  | ref p =>
    cases r
    rcases ty with ⟨rfl, xs, hq⟩ | ⟨rfl, o, hk, hc, hd⟩ | ⟨rfl, hk⟩ | ⟨rfl, S, n, hk⟩
    · obtain ⟨its, _, pl, _⟩ := I.list hq
      refine ⟨pl.isList.typeIs, fun a e => ?_⟩
      cases e
      obtain ⟨o, n, e, c, hd, _⟩ := pl
      exact ⟨o, e, hd⟩
    · refine ⟨⟨o, I.kIn p o hk, hc⟩, fun a e => ?_⟩
      cases e
      exact ⟨o, I.kIn _ o hk, hd⟩
    · have z : ∃ o, s.heap.get? p = some o ∧ o.ExactDict := by
        rcases hk with ⟨kvs, hk⟩ | ⟨kvs, hk⟩
        · obtain ⟨_, _, _, _, o, _, _, e, ex, _⟩ := I.hok p _ hk
          exact ⟨o, e, ex⟩
        · obtain ⟨_, _, _, _, o, _, _, e, ex, _⟩ := I.hok p _ hk
          exact ⟨o, e, ex⟩
      obtain ⟨o, e, ex⟩ := z
      refine ⟨⟨o, e, ex.1⟩, fun a e2 => ?_⟩
      cases e2
      exact ⟨o, e, ex.2.1⟩
    · obtain ⟨o, _, _, _, e, ex, _⟩ := I.hok p _ hk
      refine ⟨⟨o, e, ex.1⟩, fun a e2 => ?_⟩
      cases e2
      exact ⟨o, e, ex.2.1⟩
  | _ => exact False.elim ty
def tBM0 (K : PySem.W.Frag) (T : String) (r : V → List V → Hp → VK → Prop) (to : TE) : TE := fun σ H Q => to σ H fun x H1 => tyV K T x H1 ∧ r x [] H1 Q
def tBM (K : PySem.W.Frag) (T : String) (r : V → List V → Hp → VK → Prop) (to : TE) (t : TA) : TE := fun σ H Q => to σ H fun x H1 => tyV K T x H1 ∧ t σ H1 fun xs H2 => r x xs H2 Q
variable {o e : Expr} {es : List Expr} {to : TE} {t : TA} {name : Str} {apos cpos : Pos} {T id : String} {r : V → List V → Hp → VK → Prop}
theorem pe_bm0 (pa : PlainAttrs T) (slot : Slot T name id) (hty : typeOf (.builtin id) = pure (.type "method_descriptor")) (hm : MtR X id r) (ho : PE X o to)
    (hbase : attributeBase o name X.env (eval o X.env) = eval o X.env := by rfl) (hline : (apos.endLine == cpos.line) = true := by rfl) : PE X (.Call (.Attribute o name apos) [] [] cpos) (tBM0 X.K T r to) := by
  intro pins s σ H Q I h
  refine wpAny_Call_method0_late hbase hline (thn (ho pins s σ H _ I h) fun v s1 ⟨x, H1, I1, r1, ty, q1⟩ => ?_)
  obtain ⟨h1, h2⟩ := tyV_is I1 r1 ty
  exact ⟨T, id, pa, slot, hty, h1, h2, Calls.callWith_builtin rfl (PySem.evalArgs_none (hm pins s1 σ H1 x [] v [] Q I1 r1 .nil q1))⟩
theorem pe_bm (pa : PlainAttrs T) (slot : Slot T name id) (hty : typeOf (.builtin id) = pure (.type "method_descriptor")) (hm : MtR X id r) (ho : PE X o to) (ha : PA X (e :: es) t)
    (hbase : attributeBase o name X.env (eval o X.env) = eval o X.env := by rfl)
    (hfew : ((backTo cpos (starEach (e :: es) X.env)).all (fun x => !x.1) && (backToKw cpos (keywordEach [] X.env)).all (fun x => x.1.isSome)
      && decide ((e :: es).length + ([] : List Keyword).length + (if ([] : List Keyword).isEmpty then 0 else 1) < 30)) = true := by rfl)
    (hline : (apos.endLine == cpos.line) = true := by rfl) (hs : starEach (e :: es) X.env = (false, eval e X.env) :: starEach es X.env := by rfl) (hplain : (backTo cpos (starEach es X.env)).any (·.1) = false := by rfl) :
    PE X (.Call (.Attribute o name apos) (e :: es) [] cpos) (tBM X.K T r to t) := by
  intro pins s σ H Q I h
  refine wpAny_Call_method_late hbase hfew hline rfl (thn (ho pins s σ H _ I h) fun v s1 ⟨x, H1, I1, r1, ty, q1⟩ => ?_)
  obtain ⟨h1, h2⟩ := tyV_is I1 r1 ty
  refine ⟨T, id, pa, slot, hty, h1, h2, ?_⟩
  have hA := ha cpos pins s1 σ H1 _ I1 q1
  rw [hs] at hA ⊢
  refine Calls.callWith_builtin (by show (false || (backTo cpos (starEach es X.env)).any (·.1)) = false; rw [hplain] <;> rfl) (Calls.evalArgs_plain ?_)
  exact thn hA fun us s2 ⟨vs, H2, I2, r2, q2⟩ => hm pins s2 σ H2 x vs v us Q I2 r1 r2 q2
/- xs.append(e), list.index on a module's tuple .. are MtR facts of 06m -/
end
end L2
namespace L2
open PySem PySem.Spec PyProof.Rows
def MtM (X : Cx) (id : String) (r : V → List V → Hp → VK → Prop) : Prop :=
  ∀ (pins : List (Addr × Obj)) (s : Shared) (σ : St) (H : Hp) (x : V) (xs : List V) (v : Value) (us : List Value) (Q : VK), Inv X pins σ H s → RelV x v → Vals xs us → r x xs H Q →
    wpAny (model X.prog X.w) X.A (call (.builtin id) (v :: us)) (EP X pins σ Q) X.xe s
theorem Vals.one : ∀ {x : V} {us : List Value}, Vals [x] us → ∃ u, us = [u] ∧ RelV x u
  | _, _, .cons r .nil => ⟨_, rfl, r⟩
theorem Vals.zero : ∀ {us : List Value}, Vals [] us → us = []
  | _, .nil => rfl
theorem Vals.dropLast {xs : List V} {us : List Value} (h : Vals xs us) : Vals xs.dropLast us.dropLast := by
  induction h with
  | nil => exact .nil
  | cons r t ih =>
    cases t with
    | nil => exact .nil
    | cons q t' => exact .cons r ih
theorem Vals.rep {xs : List V} {us : List Value} (h : Vals xs us) : ∀ k : Nat, Vals (List.replicate k xs).flatten (List.replicate k us).flatten
  | 0 => .nil
  | k + 1 => by
    rw [List.replicate_succ, List.replicate_succ, List.flatten_cons, List.flatten_cons]
    exact Vals.append h (Vals.rep h k)
theorem erase_last {α : Type} (l : List α) : l.eraseIdx (l.length - 1) = l.dropLast := by
  induction l with
  | nil => rfl
  | cons a r ih =>
    cases r with
    | nil => rfl
    | cons b r =>
      have e : (a :: b :: r).length - 1 = ((b :: r).length - 1) + 1 := by
        have h1 : (a :: b :: r).length = r.length + 2 := rfl
        have h2 : (b :: r).length = r.length + 1 := rfl
        omega
      rw [e, List.eraseIdx_cons_succ, ih]
      all_goals rfl
theorem foldl_rep (its : List Value) : ∀ (k : Nat) (acc : List Value),
    List.foldl (fun x1 x2 => x1 ++ x2) acc.toArray (List.replicate k its.toArray) = (acc ++ (List.replicate k its).flatten).toArray
  | 0, acc => by simp
  | k + 1, acc => by
    have e : acc.toArray ++ its.toArray = (acc ++ its).toArray := by simp
    have e2 : (acc ++ its) ++ (List.replicate k its).flatten = acc ++ (List.replicate (k + 1) its).flatten := by
      rw [List.replicate_succ, List.flatten_cons, List.append_assoc]
    rw [← e2, ← foldl_rep its k (acc ++ its), ← e, List.replicate_succ, List.foldl_cons]
section
variable {X : Cx} {pins : List (Addr × Obj)} {σ : St} {H : Hp} {s : Shared} {l b : Addr} {xs ys zs : List V}
theorem Inv.lset {its its' : List Value} {n : Nat} {f : Array Value → Array Value} {t' : Nat} (I : Inv X pins σ H s) (hH : H l = some (.lst xs))
    (e : s.heap.get? l = some { cls := .type "list", data := .seq its.toArray n }) (hf : f its.toArray = its'.toArray) (hv : Vals ys its') (hz : ys.length ≤ sizeLine) :
    Inv X pins σ (upd H l (.lst ys)) { s with heap := s.heap.update l (Obj.mapSeq f), toks := t' } := by
  have q := PySem.IsL.update e f
  rw [hf] at q
  refine I.write (x := l) (e := l) (by rw [hH]; exact trivial) (.inl rfl) (fun b' u hb hu => (Heap.get?_update_other s.heap (Obj.mapSeq f) (Ne.symm hb)).trans hu) ⟨_, q⟩ ?_
  exact ⟨hz, its', _, hv, q⟩
theorem Inv.lnew {its : List Value} {t' : Nat} (I : Inv X pins σ H s) (hv : Vals ys its) (hz : ys.length ≤ sizeLine) :
    Inv X pins σ (upd H s.heap.objs.size (.lst ys)) { s with heap := s.heap.push { cls := .type "list", data := .seq its.toArray }, toks := t' } :=
  I.laid (fun _ _ q => Heap.get?_push_of_some _ q) (Nat.le_refl _) ⟨hz, its, 0, hv, Heap.get?_push_size _ rfl⟩
theorem Inv.fresh (I : Inv X pins σ H s) : H s.heap.objs.size = none := I.hok.fresh (Nat.le_refl _)
theorem Inv.lstM (I : Inv X pins σ H s) (hH : H l = some (.lst xs)) : xs.length ≤ sizeLine ∧ ∃ (its : List Value) (n : Nat), Vals xs its ∧ xs.length = its.length ∧ s.heap.get? l = some { cls := .type "list", data := .seq its.toArray n } := by
  obtain ⟨z, its, n, r, e⟩ := I.hok l _ hH
  exact ⟨z, its, n, r, r.length, e⟩
theorem notLongL {n : Nat} (h : n ≤ sizeLine) : Builtin.List.listTooLong n = false := by
  unfold Builtin.List.listTooLong
  exact decide_eq_false (by omega)
end
section
variable {X : Cx}
def rAppend : V → List V → Hp → VK → Prop := fun x vs H Q => ∃ l xs y, x = .ref l ∧ vs = [y] ∧ H l = some (.lst xs) ∧ xs.length < sizeLine ∧ Q .non (upd H l (.lst (xs ++ [y])))
theorem mt_append : MtM X "list.append" rAppend := by
  intro pins s σ H x vs v us Q I rx rv h
  obtain ⟨l, xs, y, rfl, rfl, hH, hz, q⟩ := h
  cases rx
  obtain ⟨u, rfl, ru⟩ := rv.one
  obtain ⟨z, its, n, r, hl, e⟩ := I.lstM hH
  refine call_meets F.slot_list_append ⟨_, e, rfl⟩ F.entry_list_append (F.args_list_append_2 _ _) (PySem.list_append l its.toArray n u (by rw [List.size_toArray]; omega)) ⟨e, ?_⟩
  refine ⟨.non, _, I.lset (its' := its ++ [u]) hH e (by simp) (r.append (.cons ru .nil)) ?_, rfl, q⟩
  rw [List.length_append, List.length_singleton]
  omega
def rExtend : V → List V → Hp → VK → Prop := fun x vs H Q => ∃ l b xs zs, x = .ref l ∧ vs = [.ref b] ∧ H l = some (.lst xs) ∧ H b = some (.lst zs) ∧ xs.length + zs.length ≤ sizeLine ∧ Q .non (upd H l (.lst (xs ++ zs)))
theorem mt_extend : MtM X "list.extend" rExtend := by
  intro pins s σ H x vs v us Q I rx rv h
  obtain ⟨l, b, xs, zs, rfl, rfl, hH, hB, hz, q⟩ := h
  cases rx
  obtain ⟨u, rfl, ru⟩ := rv.one
  cases ru
  obtain ⟨z, its, n, r, hl, e⟩ := I.lstM hH
  obtain ⟨z2, its2, n2, r2, hl2, e2⟩ := I.lstM hB
  have hsz : its.toArray.size + its2.toArray.size ≤ sizeLine := by rw [List.size_toArray, List.size_toArray]; omega
  have hlong : ¬ (!its.toArray.isEmpty && Builtin.List.listTooLong (its.toArray.size + its2.toArray.size)) = true := by
    rw [notLongL hsz, Bool.and_false]
    exact Bool.false_ne_true
  refine call_meets F.slot_list_extend ⟨_, e, rfl⟩ F.entry_list_extend (F.args_list_extend_2 _ _)
    (AutoSeq1.list_extend_list_list_0 l its.toArray n b its2.toArray n2 hlong (by rw [List.size_toArray]; omega) (by omega)) ⟨e, e2, ?_⟩
  refine ⟨.non, _, I.lset (its' := its ++ its2) hH e (by simp) (r.append r2) ?_, rfl, q⟩
  rw [List.length_append]
  omega
def rPop : V → List V → Hp → VK → Prop := fun x vs H Q => ∃ l xs y, x = .ref l ∧ vs = [] ∧ H l = some (.lst xs) ∧ xs[xs.length - 1]? = some y ∧ Q y (upd H l (.lst xs.dropLast))
theorem mt_pop : MtM X "list.pop" rPop := by
  intro pins s σ H x vs v us Q I rx rv h
  obtain ⟨l, xs, y, rfl, rfl, hH, hy, q⟩ := h
  cases rx
  have hus := rv.zero
  subst hus
  obtain ⟨z, its, n, r, hl, e⟩ := I.lstM hH
  obtain ⟨u, hu, ru⟩ := r.get hy
  have hy' : its.toArray[its.toArray.size - 1]? = some u := by
    show its.toArray[its.length - 1]? = some u
    rw [← Array.getElem?_toList, ← hl]
    exact hu
  refine call_meets F.slot_list_pop ⟨_, e, rfl⟩ F.entry_list_pop (F.args_list_pop_1 _) (MeetsSeq.list_pop_last l its.toArray n u hy' (by rw [List.size_toArray]; omega)) ⟨e, ?_⟩
  refine ⟨y, _, I.lset (its' := its.dropLast) hH e ?_ r.dropLast ?_, ru, q⟩
  · show its.toArray.eraseIdxIfInBounds (its.toArray.size - 1) = its.dropLast.toArray
    rw [List.size_toArray, List.eraseIdxIfInBounds_toArray, erase_last]
  · rw [List.length_dropLast]
    omega
def rClear : V → List V → Hp → VK → Prop := fun x vs H Q => ∃ l xs, x = .ref l ∧ vs = [] ∧ H l = some (.lst xs) ∧ Q .non (upd H l (.lst []))
def rCat : R2 := fun x y H Q => ∃ l b xs zs, x = .ref l ∧ y = .ref b ∧ H l = some (.lst xs) ∧ H b = some (.lst zs) ∧ xs.length + zs.length ≤ sizeLine ∧ ∀ p, H p = none → Q (.ref p) (upd H p (.lst (xs ++ zs)))
theorem op_cat : OpR X (binaryOp .Add) rCat := by
  intro pins s σ H x y v u Q I rx ry h
  obtain ⟨l, b, xs, zs, rfl, rfl, hH, hB, hz, q⟩ := h
  cases rx
  cases ry
  obtain ⟨z, its, n, r, hl, e⟩ := I.lstM hH
  obtain ⟨z2, its2, n2, r2, hl2, e2⟩ := I.lstM hB
  refine PySem.P.add_list e e2 ?_ (by rw [List.size_toArray, List.size_toArray]; omega)
  have ea : its.toArray ++ its2.toArray = (its ++ its2).toArray := by simp
  rw [ea]
  exact ⟨.ref _, _, I.lnew (t' := s.toks) (r.append r2) (by rw [List.length_append]; omega), rfl, q _ I.fresh⟩
def rRep : R2 := fun x y H Q => ∃ l k xs, x = .ref l ∧ y = .int k ∧ H l = some (.lst xs) ∧ -(2 ^ 63) ≤ k ∧ k < 2 ^ 63 ∧ xs.length * k.toNat ≤ sizeLine ∧
  ∀ p, H p = none → Q (.ref p) (upd H p (.lst (List.replicate k.toNat xs).flatten))
theorem len_rep {α : Type} (xs : List α) (k : Nat) : (List.replicate k xs).flatten.length = k * xs.length := by
  induction k with
  | zero => simp
  | succ k ih => rw [List.replicate_succ, List.flatten_cons, List.length_append, ih, Nat.succ_mul, Nat.add_comm]
theorem op_rep : OpR X (binaryOp .Mult) rRep := by
  intro pins s σ H x y v u Q I rx ry h
  obtain ⟨l, k, xs, rfl, rfl, hH, h1, h2, hz, q⟩ := h
  cases rx
  obtain ⟨t, rfl⟩ := ry
  obtain ⟨z, its, n, r, hl, e⟩ := I.lstM hH
  have hlen : its.toArray.size * k.toNat ≤ sizeLine := by rw [List.size_toArray, ← hl]; exact hz
  have hcap : ¬ its.toArray.size * k.toNat > (2 ^ 63 - 1) / 8 := by
    have : (sizeLine : Nat) ≤ (2 ^ 63 - 1) / 8 := by decide
    omega
  have hfit : ¬ (!Builtin.List.listFitsIndex k) = true := by
    rw [fitsIndex_both h1 h2]
    exact Bool.false_ne_true
  have hlong : ¬ Builtin.List.listTooLong (its.toArray.size * k.toNat) = true := by
    rw [notLongL hlen]
    exact Bool.false_ne_true
  have hnew : List.foldl (fun x1 x2 => x1 ++ x2) #[] (List.replicate (if its.toArray.isEmpty = true then 0 else k.toNat) its.toArray) = (List.replicate k.toNat its).flatten.toArray := by
    have f0 : ∀ m : Nat, List.foldl (fun x1 x2 => x1 ++ x2) #[] (List.replicate m its.toArray) = (List.replicate m its).flatten.toArray := fun m => by
      have := foldl_rep its m []
      rw [List.nil_append] at this
      exact this
    rw [f0]
    cases its with
    | nil => simp
    | cons a r' => rw [if_neg (by simp)]
  refine wpAny_binaryOp_repeat_ref (T := "list") (U := "int") (by decide) ⟨_, e, rfl⟩ (fun s' => typeIs_int s' k t) noFill_list_mul F.fills_int_mul F.slot_int_rmul repeat_list F.slot_int_index.lookup
    (call_meets F.slot_int_rmul (typeIs_int s k t) F.entry_int_rmul (F.args_int_rmul_2 _ _) (int___rmul___int_list k t l its.toArray n)
      ⟨e, rfl, ⟨_, e, rfl⟩, call_meets F.slot_list_mul ⟨_, e, rfl⟩ F.entry_list_mul (F.args_list_mul_2 _ _) (AutoListH.list___mul___list_int_3 l its.toArray n k t hfit hcap hlong) ⟨e, ?_⟩⟩)
  rw [hnew]
  exact ⟨.ref _, _, I.lnew (t' := s.toks) (r.rep k.toNat) (by rw [len_rep, Nat.mul_comm]; exact hz), rfl, q _ I.fresh⟩
end
section
variable {prog : Program} {w : World} {A : Around} {E : Value → Shared → Prop} {s : Shared}
end
section
variable {X : Cx}
end
end L2
namespace Att
open PySem PySem.W PySem.Calls PyProof.Rows
theorem ints_of_wellAll {P : Params} {h : Heap} : ∀ (ns : List Int) (vs : List Value), WellAll P h vs (ns.map WData.int) → IntsAre vs ns := by
  intro ns
  induction ns with
  | nil =>
    intro vs w
    rw [List.map_nil] at w
    cases w
    exact .nil
  | cons n ns ih =>
    intro vs w
    rw [List.map_cons] at w
    cases w with
    | cons a b =>
      cases a
      exact .cons _ _ (ih _ b)
theorem script_of {l : OpenLaw} {n : Nat} (hn : l.most = some n) {P : Params} {h : Heap} {args : List WData} {vals : List Value}
    (hpre : l.row.toRowW.claim.pre args = true) (hwl : WellAll P h vals args) :
    ∃ a vs ns, vals = [Value.ref a] ∧ args = [WData.list (ns.map WData.int)] ∧ h.get? a = some { cls := .type "list", data := .seq vs.toArray } ∧ IntsAre vs ns ∧ ns.length ≤ n := by
  have hsh : WShape.hasAll [] args [.list .int] = true := (pre_splitW hpre).1
  have hc : l.pre.holds [] { args := args } = true := (pre_splitW hpre).2
  obtain ⟨d, r, rfl, h1, h2⟩ := hasAllW_cons hsh
  obtain rfl := hasAllW_nil h2
  obtain ⟨xs, rfl, h3⟩ := hasW_list h1
  obtain ⟨ns, rfl⟩ := items_int h3
  have hlen : ns.length ≤ n := by
    unfold OpenLaw.pre at hc
    have h4 : (WTm.not (.lt (.lit (.int (n : Int))) (.len (.arg 0)))).holds [] { args := [.list (ns.map .int)] } = true := by
      have h4 := (holds_andW hc).1
      rw [hn] at h4
      exact h4
    have h5 := condW_of h4 (w_not (w_lt w_lit (w_len_list (w_arg rfl))))
    rw [List.length_map] at h5
    refine Nat.le_of_not_lt fun q => ?_
    have q' : (n : Int) < ((ns.length : Nat) : Int) := by omega
    first
      | (rw [decide_eq_true q'] at h5; exact absurd h5 (by decide))
      | (simp at h5; omega)
  cases hwl with
  | cons w1 w2 =>
    cases w2
    cases w1 with
    | list ho hall => exact ⟨_, _, ns, rfl, rfl, ho, ints_of_wellAll ns _ hall, hlen⟩
theorem post_true (l : OpenLaw) (args : List WData) : l.row.toRowW.claim.post args (.bool true) args = true :=
  postW_of (r := l.row.toRowW) (X := (true == true))
    (show WShape.has [] (.bool true) .bool = true by first | rfl | decide | simp [WShape.has, WShape.arms, WShape.armsAll])
    (show (WTm.eq .res (.lit (.bool true))).value [] { args := args, res := some (.bool true), after := args } = some (.bool (true == true)) from w_eq_bool (w_res rfl) w_lit) rfl
theorem attach_call {l : OpenLaw} {n : Nat} {q : Program} {loose : List Str} {XP : (Str → Option Value) → Heap → Prop} {YP : World → Heap → Prop} {d : DefRec}
    (hn : l.most = some n) (hdf : d.params.defaults = [])
    (call : ∀ (w : World) (s₀ s₁ : Shared) (mg mb : Str → Option Value) (fa : Addr) (o : Obj) (pm cd doc : Value) (a : Addr) (vs : List Value) (ns : List Int),
      Ground q loose [] XP w s₀ mg mb s₁.heap → YP w s₁.heap →
      s₁.heap.get? fa = some o → o.data = .func (docDef d.name d.params d.body d.scope pm cd doc) → s₁.heap.CodeRec cd d.name → mg d.name = some (.ref fa) →
      s₁.heap.get? a = some { cls := .type "list", data := .seq vs.toArray } → IntsAre vs ns → ns.length ≤ n → s₁.gens = #[] →
      codeAny (model l.prog w) callerA (.call (.ref fa) ⟨[.ref a], []⟩) (fun r s' => r = .ok (.ret (.bool true)) ∧ OldK s₁.heap s'.heap ∧ s'.os = s₁.os ∧ AllBare s'.gens) s₁) :
    WalkO q loose XP YP l.row.toRowW d [] (fun f vs => PySem.call f vs) := by
  intro w s₀ s₁ mg mb G Y fa o pm cd doc dV kV ho hd hcd hD hmg hg args vals as hpre hlay hrd hwl hlo
  obtain rfl : dV = .none := Dflts.none hD hdf
  obtain rfl : kV = .none := Dflts.noKw hD
  obtain ⟨a, vs, ns, rfl, rfl, hobj, hints, hlen⟩ := script_of hn hpre hwl
  refine enter_call (codeAny_mono (call w s₀ s₁ mg mb fa o pm cd doc a vs ns G Y ho (fd_plain hd) hcd hmg hobj hints hlen hg) fun r s' hq => ?_)
  obtain ⟨rfl, h2, h3, h4⟩ := hq
  exact ⟨.inl ⟨.bool true, .bool true, [], rfl, fun _ => rfl, .bool true, post_true l _, fun _ => ⟨List.Pairwise.nil, fun _ hm => (nomatch hm)⟩⟩, h2, h3, h4⟩
section
variable {prog : Program} {w : World} {A : Around} {E : Value → Shared → Prop} {s : Shared} {K : Frag}
def ledger (h : Heap) (L d : Addr) : List (Addr × Obj) := (List.range h.objs.size).filterMap fun a => if a = L ∨ a = d then none else (h.get? a).map fun o => (a, o)
end
end Att
namespace L2
open PySem PySem.Spec PyProof.Rows
theorem vals_ints : ∀ {vs : List Value} {ns : List Int}, IntsAre vs ns → Vals (ns.map V.int) vs
  | _, _, .nil => .nil
  | _, _, .cons n t h => .cons ⟨t, rfl⟩ (vals_ints h)
def Only (H : Hp) : Prop := ∀ b, H b = none ∨ ∃ o xs, H b = some (.frz o (.lst xs))
theorem law_call {P : Program} {w : World} {K : PySem.W.Frag} {mg mb : Str → Option Value} {CX : CXT} {k : Nat} {fa a : Addr} {fd : FuncData} {x : Str} {sp : Sp} {s₁ : Shared} {vs : List Value} {ns : List Int}
    (KX : K.In s₁.heap) (hns : s₁.heap.Ns mainGlobals mg) (hb : s₁.heap.Ns builtinsNs mb) (hbb : ∀ x : Str, x ≠ "__name__" → mb x = bootBuiltins x) (hlim : s₁.heap.NoLimit) (hg : s₁.gens = #[])
    (ha : s₁.heap.get? a = some { cls := .type "list", data := .seq vs.toArray }) (hi : IntsAre vs ns) (hl : ns.length ≤ sizeLine) (hr : Room k callerA)
    (F : ∀ base : Heap, K.In base → base.Ns mainGlobals mg → FnOk P w K mg base CX k fa fd [x] sp) (hbind : ∀ (s : Shared) (u : Value), BindsTo s fd ⟨[u], []⟩ [(x, u)])
    (hsp : ∀ H : Hp, Only H → SqL K H a (ns.map V.int) → sp [.ref a] H (fun v _ => v = .bl true) fun _ _ _ => False)
    (hCX : ∀ H e s', CX [] H s₁ (fun _ _ _ => False) e s' → False) :
    codeAny (model P w) callerA (.call (.ref fa) ⟨[.ref a], []⟩) (fun r s' => r = .ok (.ret (.bool true)) ∧ OldK s₁.heap s'.heap ∧ s'.os = s₁.os ∧ AllBare s'.gens) s₁ := by
  have rv := vals_ints hi
  have lenV := hi.length
  -- from an abstract heap in which nothing but the script may be tracked
  have core : ∀ H : Hp, Only H → SqL K H a (ns.map V.int) → HOk P w H s₁.heap → (∀ b, H b ≠ none → b = a) → (H a ≠ none → K.lookup a = none) →
      codeAny (model P w) callerA (.call (.ref fa) ⟨[.ref a], []⟩) (fun r s' => r = .ok (.ret (.bool true)) ∧ OldK s₁.heap s'.heap ∧ s'.os = s₁.os ∧ AllBare s'.gens) s₁ := by
    intro H hO hS hok hA hK
    have base_of : ∀ {b : Addr} {o : Obj}, s₁.heap.get? b = some o → H b = none → (hidT s₁.heap H).get? b = some o := fun e n => hidT_get e n
    have noA : ∀ {b : Addr} {o : Obj} {es : Array DictEntry} {ep : Nat}, s₁.heap.get? b = some o → o.data = .dict es ep → H b = none := fun {b o es ep} e d => by
      cases q : H b with
      | none => rfl
      | some u =>
        have e' : b = a := hA b (by rw [q]; simp)
        subst e'
        rw [ha] at e; cases e
        have d' : Data.seq vs.toArray _ = Data.dict es ep := d
        cases d'
    have nsK : ∀ {b : Addr} {m : Str → Option Value}, s₁.heap.Ns b m → (hidT s₁.heap H).Ns b m := fun {b m} ⟨o, es, ep, e, d, r⟩ => ⟨o, es, ep, base_of e (noA e d), d, r⟩
    have hKb : K.In (hidT s₁.heap H) := fun b o e => base_of (KX b o e) (by
      cases q : H b with
      | none => rfl
      | some u =>
        have e' : b = a := hA b (by rw [q]; simp)
        subst e'
        rw [hK (by rw [q]; simp)] at e; cases e)
    have hM : Mod K mg (hidT s₁.heap H) := ⟨hKb, nsK hns, ⟨mb, nsK hb, hbb⟩, let ⟨mc, h1, h2⟩ := hlim; ⟨mc, nsK h1, h2⟩⟩
    have e0 : Env0 P w K mg (hidT s₁.heap H) callerA [] s₁ H := ⟨rfl, hM, fun b o e => of_hidT e, Nat.le_of_eq (hidT_size _ _), trivial, fun b hb => absurd (show b ∈ ([] : List Addr) from hb) (by simp), hok, .of_eq hg⟩
    refine codeAny_mono ((F _ hKb (nsK hns)).run callerA [] s₁ H ⟨[.ref a], []⟩ [.ref a] [.ref a] _ _ hr e0 (hbind s₁ (.ref a)) (.cons rfl .nil) (hsp H hO hS)) fun r s' h => ?_
    cases r with
    | error e => exact (hCX H e s' h).elim
    | ok fl =>
      cases fl with
      | next => exact False.elim h
      | brk => exact False.elim h
      | cont => exact False.elim h
      | ret u =>
        obtain ⟨v, H', os, bare, un, hok', r', q⟩ := h
        have q' : v = .bl true := q
        subst q'
        obtain rfl : u = Value.bool true := r'
        refine ⟨rfl, OldK.of_keep fun b o e => ?_, os, bare⟩
        cases q : H b with
        | none => exact un.keep b o e q (by intro z; exact absurd (show b ∈ ([] : List Addr) from z) (by simp)) (by simp)
        | some u =>
          rcases hO b with z | ⟨ob, xs, z⟩
          · rw [q] at z; cases z
          · have z2 := un.frzs b ob _ z
            obtain ⟨e1, _⟩ := hok b _ z
            obtain ⟨e2, _⟩ := hok' b _ z2
            rw [e] at e1; cases e1
            exact e2
  cases hk : K.lookup a with
  | some o =>
    -- the script is one of the module's own objects
    have e := KX a o hk
    rw [ha] at e
    cases e
    refine core (fun _ => none) (fun _ => .inl rfl) (.inr ⟨_, vs.toArray, _, hk, rfl, rfl, rfl, by rw [List.size_toArray, lenV]; exact hl, by simpa using rv⟩) (fun b u z => by have z' : (none : Option HO) = some u := z; cases z') (fun b z => absurd rfl z) fun z => absurd rfl z
  | none =>
    refine core (fun b => if b = a then some (.frz { cls := .type "list", data := .seq vs.toArray } (.lst (ns.map V.int))) else none) (fun b => ?_) (.inl (.inr ⟨{ cls := .type "list", data := .seq vs.toArray }, if_pos rfl⟩)) (fun b u z => ?_) (fun b z => ?_) fun _ => hk
    · by_cases hb : b = a
      · exact .inr ⟨_, _, if_pos hb⟩
      · exact .inl (if_neg hb)
    · by_cases hb : b = a
      · have z' := (if_pos hb).symm.trans z
        cases z'
        subst hb
        exact ⟨ha, by rw [List.length_map]; exact hl, vs, _, rv, ha⟩
      · have z' := (if_neg hb).symm.trans z
        cases z'
    · by_cases hb : b = a
      · exact hb
      · exact absurd (if_neg hb) z
end L2
namespace L2
open PySem PySem.Spec PyProof.Rows
theorem walk_of {l : PySem.W.OpenLaw} {n k : Nat} {q : Program} {loose : List Str} {XP : (Str → Option Value) → Heap → Prop} {YP : World → Heap → Prop} {d : DefRec} {K : Params → PySem.W.Frag} {CX : World → CXT} {sp : World → Sp} {x : Str}
    (hn : l.most = some n) (hn2 : n ≤ sizeLine) (hdf : d.params.defaults = []) (hr : Room k callerA)
    (hY : ∀ (w : World) (h : Heap), YP w h → (K w.params).In h)
    (F : ∀ (w : World) (mg : Str → Option Value) (fa : Addr) (h : Heap), (K w.params).In h → h.Ns mainGlobals mg → mg d.name = some (.ref fa) →
      ∃ fd : FuncData, (∀ (s : Shared) (u : Value), BindsTo s fd ⟨[u], []⟩ [(x, u)]) ∧
        ∀ base : Heap, (K w.params).In base → base.Ns mainGlobals mg → FnOk l.prog w (K w.params) mg base (CX w) k fa fd [x] (sp w))
    (hsp : ∀ (w : World) (H : Hp) (a : Addr) (ns : List Int), ns.length ≤ n → Only H → SqL (K w.params) H a (ns.map V.int) → sp w [.ref a] H (fun v _ => v = .bl true) fun _ _ _ => False)
    (hCX : ∀ (w : World) (H : Hp) (s : Shared) (e : Value) (s' : Shared), CX w [] H s (fun _ _ _ => False) e s' → False) :
    PySem.W.WalkO q loose XP YP l.row.toRowW d [] (fun f vs => PySem.call f vs) := by
  refine Att.attach_call hn hdf fun w s₀ s₁ mg mb fa o pm cd doc a vs ns G Y ho hd hcd hmg hobj hints hlen hg => ?_
  have KX := hY w _ Y
  obtain ⟨fd, hb, hF⟩ := F w mg fa _ KX G.T.g hmg
  exact law_call KX G.T.g G.T.b G.T.builtins G.T.nolimit hg hobj hints (Nat.le_trans hlen hn2) hr hF hb (fun H hO hS => hsp w H a ns hlen hO hS) fun H e s' => hCX w H s₁ e s'
end L2
namespace L2
open PySem PySem.Spec PyProof.Rows
def defArgs (s : Stmt) : Arguments := match s with
  | .FunctionDef _ a _ _ _ _ _ _ _ _ => a
  | _ => { posonlyargs := [], args := [], vararg := none, kwonlyargs := [], kw_defaults := [], kwarg := none, defaults := [] }
def defBody (s : Stmt) : List Stmt := match s with
  | .FunctionDef _ _ b _ _ _ _ _ _ _ => b
  | _ => []
def defScope (s : Stmt) : Scope := match s with
  | .FunctionDef _ _ _ _ _ _ sc _ _ _ => sc
  | _ => { kind := .function, names := [], isGenerator := false, isCoroutine := false }
abbrev CX0 : CXT := fun _ _ _ _ _ _ => False
abbrev E0 : XK := fun _ _ _ => False
theorem pass0 {X : Cx} : Passes CX0 X E0 := fun _ _ _ _ _ _ _ h => h.elim
structure Fun (K : PySem.W.Frag) (x qual : Str) (st : Stmt) (f : Addr) (fd : FuncData) : Prop where
  ex : ∃ (oc : Value) (od : Option Addr) (kV doc pm : Value) (an : Option Addr) (cdv ct : Value) (osl : Array (Option Value)),
    fd = PySem.W.fnOf x qual (defArgs st) (defBody st) (defScope st) .none kV doc pm an cdv ct ∧ K.lookup f = some ⟨oc, od, .func fd, osl⟩ ∧ PySem.W.codeIn K cdv qual = true
  kp : PySem.W.keepIn K (.ref f) = true
section
variable {P : Program} {w : World} {K : PySem.W.Frag} {mg : Str → Option Value} {base : Heap}
theorem Fun.ok {x qual : Str} {st : Stmt} {f : Addr} {fd : FuncData} {N ps : List Str} {k : Nat} {sp : Sp} (F : Fun K x qual st f fd) (S : FnScope N ps (defScope st)) (len : ∀ vs H Q E, sp vs H Q E → vs.length = ps.length)
    (hbody : ∀ (cdv : Value) (A : Around) (outer : List Env) (s : Shared) (H : Hp) (vs : List V) (Q : VK) (E : XK), Room k (A.deeper (envOfC qual (defScope st) s.heap.objs.size f cdv)) → sp vs H Q E →
      ∃ t, PSs (cxOf CX0 P w K mg base N qual (defScope st) f cdv A outer s H E).nox (defBody st) t ∧ t { nx := fun _ H' => Q .non H', rt := Q } (start N vs) H) : FnOk P w K mg base CX0 (k + 1) f fd ps sp := by
  obtain ⟨oc, od, kV, doc, pm, an, cdv, ct, osl, rfl, lk, hcd⟩ := F.ex
  refine fn_of lk hcd S len fun A outer s H vs Q E hr hsp => ?_
  obtain ⟨t, h, q⟩ := hbody cdv A outer s H vs Q E hr hsp
  exact ⟨t, h.nox, q⟩
theorem Fun.binds {x qual : Str} {st : Stmt} {f : Addr} {fd : FuncData} {ps : List Str} (F : Fun K x qual st f fd)
    (h : ∀ (kV doc pm : Value) (an : Option Addr) (cdv ct : Value) (us : List Value), us.length = ps.length → bindArgs (PySem.W.fnOf x qual (defArgs st) (defBody st) (defScope st) .none kV doc pm an cdv ct) ⟨us, []⟩ = pure (ps.zip us)) : Binds K fd ps [] := by
  obtain ⟨oc, od, kV, doc, pm, an, cdv, ct, osl, rfl, lk, hcd⟩ := F.ex
  exact .all (h kV doc pm an cdv ct)
theorem fun_mk {x qual : Str} {st : Stmt} {f : Addr} {oc : Value} {od an : Option Addr} {osl : Array (Option Value)} {kV doc pm cdv ct : Value} (l : K.lookup f = some ⟨oc, od, .func (PySem.W.fnOf x qual (defArgs st) (defBody st) (defScope st) .none kV doc pm an cdv ct), osl⟩)
    (c : PySem.W.codeIn K cdv qual = true) (k : PySem.W.keepIn K (.ref f) = true) : Fun K x qual st f (PySem.W.fnOf x qual (defArgs st) (defBody st) (defScope st) .none kV doc pm an cdv ct) := ⟨⟨oc, od, kV, doc, pm, an, cdv, ct, osl, rfl, l, c⟩, k⟩
end
theorem small1000 {n : Nat} (h : n ≤ 1000) : n < sizeLine := Nat.lt_of_le_of_lt h (by decide)
section
variable {X : Cx}
theorem pv (i : Nat) {x : Str} {pos : Pos} (hN : X.N[i]? = some x := by rfl) (hv : Vis X.env.scope x := by first | exact Or.inl rfl | exact Or.inr (Or.inl rfl) | exact Or.inr (Or.inr rfl)) (hd : (x == ("__debug__" : Str)) = false := by decide)
    (hcd : (x == ("__classdict__" : Str)) = false := by decide) : PE X (.Name x pos) (tVar i) := pe_var hN hv hd hcd
end
theorem ite2 {c A B : Prop} [Decidable c] (h1 : c → A) (h2 : ¬ c → B) : if c then A else B := by
  by_cases h : c
  · rw [if_pos h]
    exact h1 h
  · rw [if_neg h]
    exact h2 h
def Same (H H' : Hp) : Prop := ∀ b o, H b = some o → H' b = some o
theorem Same.refl (H : Hp) : Same H H := fun _ _ h => h
theorem Same.trans {H H1 H2 : Hp} (a : Same H H1) (b : Same H1 H2) : Same H H2 := fun c o h => b c o (a c o h)
theorem Same.free {H H' : Hp} (e : Same H H') {l : Addr} (h : H' l = Option.none) : H l = Option.none := by
  cases q : H l with
  | none => rfl
  | some o =>
    rw [e l o q] at h
    cases h
theorem Same.seq {K : PySem.W.Frag} {H H' : Hp} {a : Addr} {xs : List V} (e : Same H H') (h : SqL K H a xs) : SqL K H' a xs := by
  rcases h with (h | ⟨o, h⟩) | h
  · exact .inl (.inl (e _ _ h))
  · exact .inl (.inr ⟨o, e _ _ h⟩)
  · exact .inr h
end L2
namespace L2
open PySem PySem.Spec PyProof.Rows
@[reducible] def blk (X : Cx) (x : Str) (fv : List (Nat × Str)) (scope : Scope) (cl : List (Str × Addr)) (C : Addr) (s : Shared) (H : Hp) (fp : List Addr) : Cx where
  prog := X.prog
  w := X.w
  K := X.K
  mg := X.mg
  base := X.base
  A := X.A
  N := x :: fv.map (·.2)
  s₀ := s
  H₀ := H
  env := compEnvC scope cl C X.env
  outer := X.stack
  stack := X.stack
  ex := fp
  fn := fun _ => false
  calm := X.calm
  pn := []
  xe := fun _ _ => False
def bst (fv : List (Nat × Str)) (σ : St) (v : Option V) : St := v :: fv.map fun p => (σ[p.1]?).getD none
structure BlkOk (X : Cx) (x : Str) (fv : List (Nat × Str)) (scope : Scope) (cl : List (Str × Addr)) : Prop where
  clos : closureFor scope X.env = pure cl
  nocell : ∀ y ∈ scope.names, y.2 ≠ .cell
  kind : scope.kind = .function
  names : ∀ y ∈ scope.names, y.2 = .local → scope.names.lookup y.1 = some .local
  here : scope.names.lookup x = some .local
  sub : ∀ y c, cl.lookup y = some c → X.env.cells.lookup y = some c
  has : ∀ y, ((relabel scope X.env).names.lookup y = some .cell ∨ (relabel scope X.env).names.lookup y = some .free) → ∃ c, cl.lookup y = some c
  fvs : ∀ p ∈ fv, p.2 ≠ x ∧ X.N[p.1]? = some p.2 ∧ (X.env.scope.names.lookup p.2 = some .cell ∨ X.env.scope.names.lookup p.2 = some .free) ∧
    ((relabel scope X.env).names.lookup p.2 = some .cell ∨ (relabel scope X.env).names.lookup p.2 = some .free) ∧ ∃ c, cl.lookup p.2 = some c
theorem compLoop_one {prog : Program} {w : World} {A : Around} {R : Result → Shared → Prop} {s : Shared} {elt target iter : Expr} {scope : Scope} {pos : Pos} {it acc : Value} {env : Env} (I : Nat → Shared → Prop)
    (turn : ∀ n s (E : Value → Shared → Prop), I n s → wpAny (model prog w) A (pyNext it) (fun r s₁ => match r with
      | none => R (.ok .next) s₁
      | some v => wpAny (model prog w) A (letOwnedTupleGo target it v) (fun _ s₂ => wpAny (model prog w) A (assign target env v) (fun _ s₃ => wpAny (model prog w) A (eval elt env) (fun x s₄ =>
          wpAny (model prog w) A (call (.builtin "list.append") [acc, x]) (fun _ s₅ => ∃ m, m < n ∧ I m s₅) E s₄) E s₃) E s₂) E s₁) E s)
    (n : Nat) (h : I n s) :
    codeAny (model prog w) A (.compLoop (.ListComp elt [⟨target, iter, [], 0⟩] scope pos) 0 it acc env) R s := by
  refine codeAny_loop rfl I (fun n s hI => ?_) n h
  show wpAny _ _ ((compTurn (.ListComp elt [⟨target, iter, [], 0⟩] scope pos) 0 it acc env).onRaise (fun x => do noteFrame x env; theTreesLotGoes x)) _ _ s
  refine wpAny_noted ?_
  rw [PySem.compTurn_list1]
  refine wpAny_bind (wpAny_standAt (wpAny_bind (wpAny_mono (turn n s _ hI) (fun r s₁ h₁ => ?_) fun _ _ h' => h')))
  cases r with
  | none => exact wpAny_pure h₁
  | some v =>
    exact wpAny_bind (thn h₁ fun _ s₂ h₂ => wpAny_bind (thn h₂ fun _ s₃ h₃ => wpAny_bind (wpAny_bind (thn h₃ fun x s₄ h₄ => wpAny_bind (thn h₄ fun _ s₅ h₅ => wpAny_pure (wpAny_pure ⟨rfl, h₅⟩))))))
section
variable {X : Cx} {elt iter : Expr} {x : Str} {px : Pos} {fv : List (Nat × Str)} {scope : Scope} {cl : List (Str × Addr)} {pos : Pos} {te : TE} {wi : TI}
def tComp (fv : List (Nat × Str)) (wi : TI) (te : TE) : TE := fun σ H Q => wi σ H fun J H1 => ∀ D, H1 D = none → ∃ W : Nat → Nat → Hp → Prop, (∃ m, W 0 m (upd H1 D (.lst []))) ∧ ∀ i m H, W i m H →
  (J.stop i H ∧ Q (.ref D) H) ∨ (J.go i H ∧ ∃ N : Hp → Prop, (∀ H', N H' → ∃ m', m' < m ∧ W (i + 1) m' H') ∧ ∀ v H', J.yld i H v H' → te (bst fv σ (some v)) H' fun y H2 => ∃ ys, H2 D = some (.lst ys) ∧ ys.length < sizeLine ∧ N (upd H2 D (.lst (ys ++ [y]))))
theorem blk_ok {pins : List (Addr × Obj)} {σ : St} {H : Hp} {s : Shared} {fp : List Addr} {C : Addr} (B : BlkOk X x fv scope cl) (I : Inv X pins σ H s) (hf : ∀ b ∈ fp, FpOk X pins H b) (hC : s.heap.objs.size ≤ C) (hfC : ∀ b ∈ fp, b ≠ C) :
    (blk X x fv scope cl C s H fp).Ok where
  mod := I.ok.mod
  kind := B.kind
  glob := I.ok.glob
  blt := I.ok.blt
  above := hC
  inj := fun y z c h1 h2 => I.ok.inj y z c (B.sub y c h1) (B.sub z c h2)
  has := fun y hy => B.has y hy
  cab := fun y c h => nomatch h
  hd := I.ok.hd
  frames := I.ok.frames
  stk := .inl rfl
  exf := fun b hb => ⟨hfC b hb, fun y c e => (hf b hb).2.2.2.2.1 y c (B.sub y c e)⟩
  bs := I.bs
  bsz := Nat.le_trans I.ok.bsz I.sz
  noex := fun b o e hb => by
    obtain ⟨_, _, _, f3, _⟩ := hf b hb
    rcases f3 with z | z
    · exact I.ok.noex b o e z
    · exact absurd (Nat.lt_of_lt_of_le (Heap.lt_size e) (Nat.le_trans I.ok.bsz z)) (Nat.lt_irrefl _)
  exfs := fun b hb hs => by
    obtain ⟨_, f1, f2, _⟩ := hf b hb
    rcases List.mem_cons.mp (I.stkSub b hs) with z | z
    · exact f1 z
    · exact f2 z
  funs := I.stack
  frf := I.stkFree
theorem bst_get {fv : List (Nat × Str)} {σ : St} {o : Option V} {j : Nat} {y : Str} {v : V} (h1 : (x :: fv.map (·.2))[j + 1]? = some y) (h2 : (bst fv σ o)[j + 1]? = some (some v)) : ∃ p ∈ fv, p.2 = y ∧ σ[p.1]? = some (some v) := by
  have e1 : (fv.map (·.2))[j]? = some y := by simpa using h1
  have e2 : (fv.map fun p => (σ[p.1]?).getD none)[j]? = some (some v) := by simpa [bst] using h2
  rw [List.getElem?_map] at e1 e2
  cases q : fv[j]? with
  | none => rw [q] at e1; cases e1
  | some p =>
    rw [q] at e1 e2
    refine ⟨p, List.mem_of_getElem? q, Option.some.inj e1, ?_⟩
    have e3 : (σ[p.1]?).getD none = some v := Option.some.inj e2
    cases r : σ[p.1]? with
    | none => rw [r] at e3; cases e3
    | some w => rw [r] at e3; exact congrArg some e3
theorem blk_start {pins : List (Addr × Obj)} {σ : St} {H : Hp} {s s4 : Shared} {fp : List Addr} {C : Addr} {m : Str → Option Value} (B : BlkOk X x fv scope cl) (I : Inv X pins σ H s) (hf : ∀ b ∈ fp, FpOk X pins H b) (hC : C = s.heap.objs.size)
    (hfC : ∀ b ∈ fp, b ≠ C) (os : s4.os = s.os) (gens : s4.gens = s.gens) (keep : ∀ b o, s.heap.get? b = some o → s4.heap.get? b = some o) (ns : s4.heap.Ns C m) :
    Inv (blk X x fv scope cl C s H fp) [] (bst fv σ none) H s4 := by
  subst hC
  refine ⟨blk_ok B I hf (Nat.le_refl _) hfC, os, by rw [gens]; exact I.bare, Un.kept keep, ⟨m, ns, fun i y v h1 h2 h3 => ?_⟩, fun y c e => ?_, I.hok.fresh (Nat.le_refl _), fun y c e => I.freeC y c (B.sub y c e), fun p hp => absurd (show p ∈ ([] : List (Addr × Obj)) from hp) (by simp), I.hok.kept keep, by simp [bst]⟩
  · cases i with
    | zero => simp [bst] at h2
    | succ j =>
      obtain ⟨p, hp, rfl, hv⟩ := bst_get h1 h2
      obtain ⟨_, hN, hk, hk2, c, hc⟩ := B.fvs p hp
      obtain ⟨m0, _, hl⟩ := I.loc
      have vis : Vis X.env.scope p.2 := hk.elim (fun z => .inr (.inl z)) fun z => .inr (.inr z)
      obtain ⟨u, r, l⟩ := hl p.1 p.2 v hN hv vis
      refine ⟨u, r, .inr ⟨hk2, c, hc, ?_⟩⟩
      rcases l with ⟨z, _⟩ | ⟨_, c', hc', o, ho, hd⟩
      · have z' : X.env.scope.names.lookup p.2 = some .local := z
        rcases hk with k | k <;> (rw [k] at z'; cases z')
      · have := B.sub p.2 c hc
        rw [hc'] at this; cases this
        exact ⟨o, keep _ o ho, hd⟩
  · obtain ⟨v, o, ho, hd⟩ := I.cell y c (B.sub y c e)
    exact ⟨v, o, keep c o ho, hd⟩
theorem blk_store {pins' : List (Addr × Obj)} {σ : St} {H H0 : Hp} {s s5 : Shared} {fp : List Addr} {C : Addr} {o : Option V} {v : V} {u : Value} {E : Value → Shared → Prop} {Q : Unit → Shared → Prop} (B : BlkOk X x fv scope cl)
    (I : Inv (blk X x fv scope cl C s H0 fp) pins' (bst fv σ o) H s5) (r : RelV v u) (h : ∀ s6, Inv (blk X x fv scope cl C s H0 fp) pins' (bst fv σ (some v)) H s6 → Q () s6) :
    wpAny (model X.prog X.w) X.A (assign (.Name x px) (compEnvC scope cl C X.env) u) Q E s5 := by
  obtain ⟨m, hn, hl⟩ := id I.loc
  have hk : (relabel scope X.env).names.lookup x = some .local := lookup_relabel_local B.here
  have hcls : ((compEnvC scope cl C X.env).scope.kind == .class || ((compEnvC scope cl C X.env).scope.kind == .module && (compEnvC scope cl C X.env).locals != (compEnvC scope cl C X.env).globals)) = false := by
    have : (compEnvC scope cl C X.env).scope.kind = .function := B.kind
    rw [this]; rfl
  refine wpAny_assign_Name (wpAny_storeName_local hk hn (fun h' hn' hs => ?_) hcls)
  have cne := I.cne
  obtain ⟨oL, _, _, hoL, _⟩ := id hn
  have tracked : HOk X.prog X.w H h' := fun b ob e => by
    refine (I.hok b ob e).stay (fun c w' hc q => (hs.2 c ?_).trans q) (fun _ q => q) fun _ _ q => q
    intro z
    have z' : c = C := z
    have fr : H C = none := I.free
    rcases hc with hc | hc
    · rw [← hc, z', fr] at e; cases e
    · rw [z', fr] at hc; cases hc
  refine h _ ⟨I.ok, I.os, I.bare, ⟨fun b o e n hb hx => ?_, fun b o e n hb hx => ?_, I.base.free, fun b o e hx => ?_, I.base.tups, I.base.frzs, I.base.tbls⟩, ⟨_, hn', fun j y v' e1 e2 e3 => ?_⟩, fun y c e => ?_, I.free, I.freeC, fun p hp => ?_, tracked, by simp [bst]⟩
  · exact (hs.2 b (Nat.ne_of_lt (Nat.lt_of_lt_of_le (Heap.lt_size e) I.ok.above))).trans (I.base.keep b o e n hb hx)
  · obtain ⟨sl, e1⟩ := I.base.slot b o e n hb hx
    exact ⟨sl, (hs.2 b (Nat.ne_of_lt (Nat.lt_of_lt_of_le (Heap.lt_size e) I.ok.above))).trans e1⟩
  · obtain ⟨o', e1⟩ := I.base.there b o e hx
    exact ⟨o', (hs.2 b (Nat.ne_of_lt (Nat.lt_of_lt_of_le (Heap.lt_size e) I.ok.above))).trans e1⟩
  · cases j with
    | zero =>
      have e1' : x = y := by simpa using e1
      subst e1'
      have e2' : v = v' := by simpa [bst] using e2
      subst e2'
      exact ⟨u, r, .inl ⟨hk, by simp⟩⟩
    | succ j =>
      have e2' : (bst fv σ o)[j + 1]? = some (some v') := by simpa [bst] using e2
      obtain ⟨u', r', q⟩ := hl (j + 1) y v' e1 e2' e3
      refine ⟨u', r', ?_⟩
      obtain ⟨p, hp, rfl, _⟩ := bst_get e1 e2
      rcases q with ⟨k, e⟩ | ⟨k, c, e, z⟩
      · exact .inl ⟨k, by simp [(B.fvs p hp).1, e]⟩
      · exact .inr ⟨k, c, e, z.sameBut hs (cne _ c e)⟩
  · obtain ⟨w', z⟩ := I.cell y c e
    exact ⟨w', z.sameBut hs (cne y c e)⟩
  · obtain ⟨e, n, ne, nf, d⟩ := I.pin p hp
    exact ⟨(hs.2 p.1 ne).trans e, n, ne, nf, d⟩
theorem blk_run {pins : List (Addr × Obj)} {σ : St} {H : Hp} {s2 : Shared} {it : Addr} {fp : List Addr} {tn : Nat → Heap → Prop} {J : It} {Q : VK} {E : Value → Shared → Prop} {RR : Value → Addr → Result → Shared → Prop}
    (hc : X.calm = true) (B : BlkOk X x fv scope cl) (he : ∀ C s H fp, PE (blk X x fv scope cl C s H fp) elt te) (I : Inv X pins σ H s2) (T : Turn X.prog X.w X.K (.Name x px) J fp it tn) (st : tn 0 s2.heap) (hf : ∀ b ∈ fp, FpOk X pins H b)
    (rd : ∀ D, H D = none → ∃ W : Nat → Nat → Hp → Prop, (∃ m, W 0 m (upd H D (.lst []))) ∧ ∀ i m H, W i m H →
      (J.stop i H ∧ Q (.ref D) H) ∨ (J.go i H ∧ ∃ N : Hp → Prop, (∀ H', N H' → ∃ m', m' < m ∧ W (i + 1) m' H') ∧ ∀ v H', J.yld i H v H' → te (bst fv σ (some v)) H' fun y H2 => ∃ ys, H2 D = some (.lst ys) ∧ ys.length < sizeLine ∧ N (upd H2 D (.lst (ys ++ [y])))))
    (hRR : ∀ D C s' H' m', Inv X pins σ H' s' → FpOk X pins H' C → s'.heap.Ns C m' → Q (.ref D) H' → RR (.ref D) C (.ok .next) s') :
    wpAny (model X.prog X.w) X.A (newList []) (fun acc s₃ => wpAny (model X.prog X.w) X.A (newFunctionEnv scope X.env.globals cl [] X.env.qual none .none (some X.env)) (fun cenv s₄ =>
      codeAny (model X.prog X.w) X.A (.compStart (.ListComp elt [⟨.Name x px, iter, [], 0⟩] scope pos) 0 (.ref it) acc { cenv with scope := relabel scope X.env }) (RR acc cenv.locals) s₄) E s₃) E s2 := by
  refine wpAny_newObj_type ?_ (by show 0 ≤ sizeLine; exact Nat.zero_le _)
  have hD : H s2.heap.objs.size = none := I.hok.fresh (Nat.le_refl _)
  have I3 := I.lnew (ys := []) (its := []) (t' := s2.toks) .nil (Nat.zero_le _)
  generalize hs3 : ({ s2 with heap := s2.heap.push { cls := .type "list", data := .seq ([] : List Value).toArray }, toks := s2.toks } : Shared) = s3 at I3
  have sz3 : s3.heap.objs.size = s2.heap.objs.size + 1 := by rw [← hs3]; exact Heap.size_push ..
  have up3 : ∀ b o, s2.heap.get? b = some o → s3.heap.get? b = some o := fun b o e => by rw [← hs3]; exact Heap.get?_push_of_some _ e
  have hf3 : ∀ b ∈ fp, FpOk X pins (upd H s2.heap.objs.size (.lst [])) b := fun b hb => by
    obtain ⟨f0, r⟩ := hf b hb
    refine ⟨?_, r⟩
    obtain ⟨o, e, _⟩ := T.obj 0 _ st b hb
    rw [upd_ne (Nat.ne_of_lt (Heap.lt_size e))]; exact f0
  have ltf : ∀ b ∈ fp, b < s2.heap.objs.size := fun b hb => by
    obtain ⟨o, e, _⟩ := T.obj 0 _ st b hb
    exact Heap.lt_size e
  have st3 : tn 0 s3.heap := T.keep 0 _ _ st fun b _ o e => up3 b o e
  obtain ⟨W, ⟨m0, w0⟩, turn⟩ := rd _ hD
  refine wpAny_newFunctionEnv B.nocell (by intro y hy; simp at hy) (fun h₁ hns₁ hsb₁ => ?_) B.kind
  have hfC : ∀ b ∈ fp, b ≠ s3.heap.objs.size := fun b hb => Nat.ne_of_lt (by rw [sz3]; exact Nat.lt_succ_of_lt (ltf b hb))
  have up4 : ∀ b o, s3.heap.get? b = some o → h₁.get? b = some o := fun b o e => hsb₁.extBut b o (Nat.ne_of_lt (Heap.lt_size e)) (Heap.get?_push_of_some _ e)
  generalize hs4 : ({ s3 with heap := h₁, toks := s3.toks + ([] : List (Str × Value)).length } : Shared) = s4
  have h4 : s4.heap = h₁ := by rw [← hs4]
  have I4 : Inv (blk X x fv scope cl s3.heap.objs.size s3 (upd H s2.heap.objs.size (.lst [])) fp) [] (bst fv σ none) (upd H s2.heap.objs.size (.lst [])) s4 :=
    blk_start B I3 hf3 rfl hfC (by rw [← hs4]) (by rw [← hs4]) (fun b o e => by rw [h4]; exact up4 b o e) (by rw [h4]; exact hns₁)
  have st4 : tn 0 s4.heap := by rw [h4]; exact T.keep 0 _ _ st3 fun b _ o e => up4 b o e
  -- what stays true of the iterator's objects
  have stat : ∀ {H' : Hp}, (∀ b ∈ fp, H' b = none) → ∀ b ∈ fp, FpOk (blk X x fv scope cl s3.heap.objs.size s3 (upd H s2.heap.objs.size (.lst [])) fp) [] H' b := fun {H'} hn b hb => by
    obtain ⟨_, f1, f2, f3, f4, f5⟩ := hf b hb
    refine ⟨hn b hb, hfC b hb, fun z => ?_, .inl hb, fun y c e => f4 y c (B.sub y c e), fun p hp => absurd (show p ∈ ([] : List (Addr × Obj)) from hp) (by simp)⟩
    rcases List.mem_cons.mp (I.stkSub b z) with q | q
    · exact f1 q
    · exact f2 q
  have loop : codeAny (model X.prog X.w) X.A (.compLoop (.ListComp elt [⟨.Name x px, iter, [], 0⟩] scope pos) 0 (.ref it) (.ref s2.heap.objs.size) (compEnvC scope cl s3.heap.objs.size X.env)) (RR (.ref s2.heap.objs.size) s3.heap.objs.size) s4 := by
    refine compLoop_one (fun n s' => ∃ i H' o, Inv (blk X x fv scope cl s3.heap.objs.size s3 (upd H s2.heap.objs.size (.lst [])) fp) [] (bst fv σ o) H' s' ∧ tn i s'.heap ∧ (∀ b ∈ fp, H' b = none) ∧ W i n H') ?_ m0
      ⟨0, _, none, I4, st4, fun b hb => (hf3 b hb).1, w0⟩
    rintro n s5 E' ⟨i, H5, o5, I5, st5, fr5, w5⟩
    rcases turn i n H5 w5 with ⟨stop, q⟩ | ⟨go, N, hN, step⟩
    · refine thn (T.done (blk X x fv scope cl s3.heap.objs.size s3 (upd H s2.heap.objs.size (.lst [])) fp) rfl rfl rfl hc i [] s5 _ H5 _ I5 (stat fr5) st5 stop) fun r s6 ⟨hr, I6⟩ => ?_
      subst hr
      obtain ⟨m6, hn6, _⟩ := I6.loc
      have un : Un (frs X.stack) fp H H5 s2.heap s6.heap := by
        have u1 : Un (frs X.stack) fp H (upd H s2.heap.objs.size (.lst [])) s2.heap s3.heap := Un.laid up3 (Nat.le_refl _) hD
        exact u1.trans I6.base
      have J6 : Inv X pins σ H5 s6 := by
        refine I.call' ?_ un I6.hok I6.bare fun b hb => ?_
        · have := I6.os
          rw [show (blk X x fv scope cl s3.heap.objs.size s3 (upd H s2.heap.objs.size (.lst [])) fp).s₀.os = s2.os by rw [← hs3]] at this
          exact this
        · obtain ⟨_, f1, f2, f3, f4, f5⟩ := hf b hb
          exact ⟨f3, f1, f4, f5⟩
      refine hRR _ _ s6 H5 m6 J6 ?_ hn6 q
      exact I3.fpOk (Nat.le_refl _) I6.free
    · refine thn (T.item (blk X x fv scope cl s3.heap.objs.size s3 (upd H s2.heap.objs.size (.lst [])) fp) rfl rfl rfl hc i [] s5 _ H5 _ I5 (stat fr5) st5 go) fun r s6 ⟨u, hr, h6⟩ => ?_
      subst hr
      refine thn h6 fun _ s7 ⟨v, H7, I7, r7, y7, st7, fr7⟩ => ?_
      have I7' := I7.pinned (stat fr7) (T.obj _ _ st7)
      refine blk_store B I7' r7 fun s8 I8 => ?_
      have e8 := he _ _ _ _ _ s8 _ H7 _ I8 (step v H7 y7)
      refine wpAny_mono e8 (fun y s9 ⟨yv, H9, I9, r9, ys, hD9, hz, n9⟩ => ?_) fun _ _ z => False.elim z
      have a9 := mt_append (X := blk X x fv scope cl s3.heap.objs.size s3 (upd H s2.heap.objs.size (.lst [])) fp) _ s9 _ H9 (.ref s2.heap.objs.size) [yv] (.ref s2.heap.objs.size) [y] (fun _ H10 => H10 = upd H9 s2.heap.objs.size (.lst (ys ++ [yv]))) I9 rfl (.cons r9 .nil)
        ⟨_, ys, yv, rfl, rfl, hD9, hz, rfl⟩
      refine wpAny_mono a9 (fun _ s10 ⟨_, H10, I10, _, e10⟩ => ?_) fun _ _ z => False.elim z
      subst e10
      obtain ⟨m', hm, w9⟩ := hN _ n9
      refine ⟨m', hm, i + 1, _, some v, I10.unpinned, T.keep _ _ _ st7 fun b hb o e => (I10.pin (b, o) (List.mem_append_right _ (List.mem_append_right _ (mem_pinsAt hb e)))).1, fun b hb => ?_, w9⟩
      obtain ⟨o, e, _⟩ := T.obj _ _ st7 b hb
      exact (I10.pin (b, o) (List.mem_append_right _ (List.mem_append_right _ (mem_pinsAt hb e)))).2.1
  exact codeAny_compStart_list loop (T.self _ 0 _ _ _ st4 loop)
end
end L2
namespace L2
open PySem PySem.Spec PyProof.Rows
section
variable {X : Cx} {elt iter : Expr} {x : Str} {px : Pos} {fv : List (Nat × Str)} {scope : Scope} {cl : List (Str × Addr)} {pos : Pos} {te : TE} {wi : TI}
theorem pe_lcomp (hc : X.calm = true) (B : BlkOk X x fv scope cl) (hi : PI X (.Name x px) iter wi) (he : ∀ C s H fp, PE (blk X x fv scope cl C s H fp) elt te)
    (hs : ∀ v, foldedSetIterable iter X.env v = pure v := by intro _; rfl) : PE X (.ListComp elt [⟨.Name x px, iter, [], 0⟩] scope pos) (tComp fv wi te) := by
  intro pins s σ H Q I h
  rw [eval_ListComp]
  refine wpAny_comprehension_free (use := none) rfl hs B.clos B.kind B.names (thn (hi pins s σ H _ I h) fun v s1 h1 => thn h1 fun itv s2 h2 => ?_)
  obtain ⟨it, fp, tn, J, H2, e, I2, T, st2, f2, rd⟩ := h2
  subst e
  refine blk_run (RR := fun acc C => compPost (model X.prog X.w) X.A X.xe none (EP X pins σ Q) acc C) hc B he I2 T st2 f2 rd ?_
  intro D C s' H' m' I' fC hn q
  exact ⟨m', hn, fun h' sb => ⟨.ref D, H', I'.turned (t' := s'.toks) (fun b o hb e => (sb.2 b hb).trans e) fC.1 fC.2.1 fC.2.2.2.1 fC.2.2.2.2.1 fC.2.2.2.2.2, rfl, q⟩⟩
theorem ps_setC {i : Nat} {y : Str} {py spos : Pos} (hc : X.calm = true) (B : BlkOk X x fv scope cl) (hi : PI X (.Name x px) iter wi) (he : ∀ C s H fp, PE (blk X x fv scope cl C s H fp) elt te)
    (hN : X.N.Nodup) (hiy : X.N[i]? = some y) (hy : X.env.scope.names.lookup y = some .local)
    (hsw : swapsWith (.ListComp elt [⟨.Name x px, iter, [], 0⟩] scope pos) (some (.Name y py)) spos.line X.env = pure true := by rfl)
    (hs : ∀ v, foldedSetIterable iter X.env v = pure v := by intro _; rfl) :
    PS X (.Assign [.Name y py] (.ListComp elt [⟨.Name x px, iter, [], 0⟩] scope pos) spos) (tAsg (tComp fv wi te) (gName i)) := by
  intro pins s σ H D I h
  rw [exec_Assign_Name_used _ _ _ _ hsw]
  refine wpAny_bind (wpAny_standAt (wpAny_bind ?_))
  show wpAny _ X.A (do let _ ← comprehension (.ListComp elt [⟨.Name x px, iter, [], 0⟩] scope pos) scope X.env _ (newList []) false (eval iter X.env) (some (assign (.Name y py) X.env))) _ _ s
  refine wpAny_bind (wpAny_mono (wpAny_comprehension_free (use := some (assign (.Name y py) X.env)) (Q := fun _ s' => SP X pins D .next s') rfl hs B.clos B.kind B.names
    (thn (hi pins s σ H _ I h) fun v s1 h1 => thn h1 fun itv s2 h2 => ?_)) (fun _ s' hq => wpAny_pure (wpAny_pure hq)) fun _ _ e => e)
  obtain ⟨it, fp, tn, J, H2, e, I2, T, st2, f2, rd⟩ := h2
  subst e
  refine blk_run (Q := fun x H1 => gName i x σ H1 D.nx) (RR := fun acc C => compPost (model X.prog X.w) X.A X.xe (some (assign (.Name y py) X.env)) (fun _ s' => SP X pins D .next s') acc C) hc B he I2 T st2 f2 rd ?_
  intro Dl C s' H' m' I' fC hn q
  show wpAny _ X.A (assign (.Name y py) X.env (.ref Dl)) _ _ _
  refine wpAny_assign_Name (store_ok2 I' hN hiy (.inl hy) (v := .ref Dl) rfl (fun s'' I'' hab => ?_) (.inr hy))
  obtain ⟨a, sb, ha⟩ := hab
  have hCa : C ≠ a := by
    rcases ha with rfl | e
    · exact fC.2.1
    · exact Ne.symm (fC.2.2.2.2.1 _ _ e)
  exact ⟨m', hn.sameBut sb hCa, fun h' sb' => ⟨_, H', I''.turned (t' := s''.toks) (fun b o hb e => (sb'.2 b hb).trans e) fC.1 fC.2.1 fC.2.2.2.1 fC.2.2.2.2.1 fC.2.2.2.2.2, q⟩⟩
end
def Itrs (lo c : Int) (n : Nat) : It := ⟨fun i _ => i < n, fun i H x H' => H' = H ∧ x = .int (lo + i * c), fun i _ => n ≤ i⟩
theorem turn_ranges {P : Program} {w : World} {K : PySem.W.Frag} {tg : Expr} (it : Addr) (lo c : Int) (n : Nat) : Turn P w K tg (Itrs lo c n) [it] it (fun i h => IsRangeIter h it (lo + (i : Nat) * c) ((n : Int) - (i : Nat)) c) where
  mem := by simp
  obj := fun i h st b hb => by
    have e : b = it := by simpa using hb
    subst e
    exact ⟨_, st, fun v z => by
      have z' : Data.fields _ = Data.cell v := z
      cases z'⟩
  keep := fun i h h' st k => k it (by simp) _ st
  item := by
    intro X hP hw hK hc i pins s σ H E I hf st hg
    subst hP hw hK
    obtain ⟨f0, f1, f2, f3, f4, f5⟩ := hf it (by simp)
    have W := Walks.range (prog := X.prog) (w := X.w) (I.ok.hd hc) it lo c n
    refine W.item i s _ _ hg st fun v h' tk hv st' kk => ?_
    obtain ⟨t, rfl⟩ := hv
    have I1 : Inv X pins σ H { s with heap := h', toks := tk } := I.turned (fun b o hb e => kk b o (by simpa using hb) e) f0 f1 f3 f4 f5
    exact ⟨_, rfl, go_of (s := { s with heap := h', toks := tk }) (n := "range_iterator") st' rfl rfl (by decide) ⟨.int (lo + i * c), H, I1, ⟨t, rfl⟩, ⟨rfl, rfl⟩, st', fun b hb => (hf b hb).1⟩⟩
  done := by
    intro X hP hw hK hc i pins s σ H E I hf st hg
    subst hP hw hK
    obtain ⟨f0, f1, f2, f3, f4, f5⟩ := hf it (by simp)
    exact wpAny_pyNext_range_end (I.ok.hd hc) st (by have : n ≤ i := hg; omega) fun h' eb => ⟨rfl, I.turned (t' := s.toks) (fun b o hb e => eb b o hb e) f0 f1 f3 f4 f5⟩
  self := fun _ _ _ _ _ st h => wpAny_pyIter_rangeiter st h
section
variable {X : Cx} {tg : Expr}
def iRng3 (ta : TA) : TI := fun σ H R => ta σ H fun vs H1 => ∃ (i j k : Int) (n : Nat), vs = [.int i, .int j, .int k] ∧ k ≠ 0 ∧ k.natAbs < 1073741824 ∧ Builtin.Range.small i j k = true ∧ Builtin.Range.rangeSize i j k = n ∧ R (Itrs i k n) H1
theorem pi_range3 {a b c : Expr} {ta : TA} {p pos : Pos} (hg : Gl X "range") (hm : X.mg "range" = none) (ha : PA X [a, b, c] ta) (hs : starEach [a, b, c] X.env = [(false, eval a X.env), (false, eval b X.env), (false, eval c X.env)] := by rfl)
    (hs2 : starEach [b, c] X.env = [(false, eval b X.env), (false, eval c X.env)] := by rfl) : PI X tg (.Call (.Name "range" p) [a, b, c] [] pos) (iRng3 ta) := by
  intro pins s σ H R I h
  refine Call_ (ld_blt I hg hm boot_range (PyProof.Rows.callWith_type1 (thn (ha pos pins s σ H _ I h) fun us s1 ⟨vs, H1, I1, r1, q1⟩ => ?_) (by rw [hs, hs2]) (by rw [hs2]; rfl)))
  obtain ⟨i, j, k, n, e, hk, hk2, hsm, hn, q⟩ := q1
  subst e
  cases r1 with
  | cons r rr =>
    cases rr with
    | cons r' rr =>
      cases rr with
      | cons r'' rr =>
        cases rr
        obtain ⟨t, rfl⟩ := r
        obtain ⟨t', rfl⟩ := r'
        obtain ⟨t'', rfl⟩ := r''
        refine call_range_3 hk ?_ (.inl (PyProof.noPylong_small hk2))
        refine wpAny_pyIter_range (IsRange.new ..) hsm ?_
        have I2 : Inv X pins σ H1 { s1 with heap := s1.heap.push { cls := .type "range", data := .fields #[.int i t, .int j t', .int k t''] }, toks := s1.toks } := I1.kept fun b o e => Heap.get?_push_of_some _ e
        refine ⟨(s1.heap.push { cls := .type "range", data := .fields #[.int i t, .int j t', .int k t''] }).objs.size, [(s1.heap.push { cls := .type "range", data := .fields #[.int i t, .int j t', .int k t''] }).objs.size], _, _, H1, rfl,
          I2.kept (t' := s1.toks) fun b o e => Heap.get?_push_of_some _ e, turn_ranges _ i k n, ?_, fun b hb => ?_, q⟩
        · have e1 : i + ((0 : Nat) : Int) * k = i := by simp
          have e2 : ((n : Nat) : Int) - ((0 : Nat) : Int) = Builtin.Range.rangeSize i j k := by rw [hn]; simp
          show IsRangeIter _ _ (i + ((0 : Nat) : Int) * k) (((n : Nat) : Int) - ((0 : Nat) : Int)) k
          rw [e1, e2]
          exact Heap.get?_push_size _ rfl
        · have e : b = (s1.heap.push { cls := .type "range", data := .fields #[.int i t, .int j t', .int k t''] }).objs.size := by simpa using hb
          subst e
          exact I2.fpOk (Nat.le_refl _) (I2.hok.fresh (Nat.le_refl _))
end
theorem for_ranges {lo c : Int} {n : Nat} {g : TG} {tb : TS} {D : Ends} {σ : St} {H : Hp} (Pv : Nat → St → Hp → Prop) (h0 : Pv 0 σ H)
    (hs : ∀ i σ H, i < n → Pv i σ H → g (.int (lo + i * c)) σ H fun σ2 H2 => tb { D with nx := Pv (i + 1), ct := Pv (i + 1), bk := D.nx } σ2 H2) (hd : ∀ σ H, Pv n σ H → D.nx σ H) :
    ∃ W : Nat → Nat → St → Hp → Prop, (∃ m, W 0 m σ H) ∧ ∀ i m σ H, W i m σ H →
      ((Itrs lo c n).stop i H ∧ D.nx σ H) ∨ ((Itrs lo c n).go i H ∧ ∃ N : St → Hp → Prop, (∀ σ' H', N σ' H' → ∃ m', m' < m ∧ W (i + 1) m' σ' H') ∧ ∀ x H', (Itrs lo c n).yld i H x H' → g x σ H' fun σ2 H2 => tb { D with nx := N, ct := N, bk := D.nx } σ2 H2) := by
  refine ⟨fun i m σ H => m = n - i ∧ i ≤ n ∧ Pv i σ H, ⟨n, by simp, Nat.zero_le _, h0⟩, ?_⟩
  rintro i m σ H ⟨rfl, hi, p⟩
  by_cases hlt : i < n
  · refine .inr ⟨hlt, Pv (i + 1), fun σ' H' p' => ⟨n - (i + 1), by omega, rfl, hlt, p'⟩, fun x H' y => ?_⟩
    obtain ⟨e, y⟩ := y
    subst e y
    exact hs i σ _ hlt p
  · have e : i = n := by omega
    subst e
    exact .inl ⟨Nat.le_refl _, hd σ H p⟩
theorem comp_list {K : PySem.W.Frag} {a : Addr} {xs : List V} {fv : List (Nat × Str)} {te : TE} {Q : VK} {σ : St} {H1 : Hp} {D : Addr} (Pv : Nat → Hp → Prop) (h0 : Pv 0 (upd H1 D (.lst []))) (hl : ∀ i H, i ≤ xs.length → Pv i H → SqL K H a xs)
    (hs : ∀ i v H, xs[i]? = some v → Pv i H → te (bst fv σ (some v)) H fun y H2 => ∃ ys, H2 D = some (.lst ys) ∧ ys.length < sizeLine ∧ Pv (i + 1) (upd H2 D (.lst (ys ++ [y])))) (hd : ∀ H, Pv xs.length H → Q (.ref D) H) :
    ∃ W : Nat → Nat → Hp → Prop, (∃ m, W 0 m (upd H1 D (.lst []))) ∧ ∀ i m H, W i m H →
      ((Itl K a).stop i H ∧ Q (.ref D) H) ∨ ((Itl K a).go i H ∧ ∃ N : Hp → Prop, (∀ H', N H' → ∃ m', m' < m ∧ W (i + 1) m' H') ∧ ∀ v H', (Itl K a).yld i H v H' → te (bst fv σ (some v)) H' fun y H2 => ∃ ys, H2 D = some (.lst ys) ∧ ys.length < sizeLine ∧ N (upd H2 D (.lst (ys ++ [y])))) := by
  refine ⟨fun i m H => m = xs.length - i ∧ i ≤ xs.length ∧ Pv i H, ⟨xs.length, by simp, Nat.zero_le _, h0⟩, ?_⟩
  rintro i m H ⟨rfl, hi, p⟩
  have q := hl i H hi p
  by_cases hlt : i < xs.length
  · refine .inr ⟨⟨xs, xs[i], q, List.getElem?_eq_getElem hlt⟩, Pv (i + 1), fun H' p' => ⟨xs.length - (i + 1), by omega, rfl, hlt, p'⟩, fun v H' y => ?_⟩
    obtain ⟨e, y⟩ := y
    subst e
    exact hs i v _ (y xs q) p
  · have e : i = xs.length := by omega
    subst e
    exact .inl ⟨⟨xs, q, Nat.le_refl _⟩, hd H p⟩
theorem comp_range {lo : Int} {n : Nat} {fv : List (Nat × Str)} {te : TE} {Q : VK} {σ : St} {H1 : Hp} {D : Addr} (Pv : Nat → Hp → Prop) (h0 : Pv 0 (upd H1 D (.lst [])))
    (hs : ∀ i H, i < n → Pv i H → te (bst fv σ (some (.int (lo + i)))) H fun y H2 => ∃ ys, H2 D = some (.lst ys) ∧ ys.length < sizeLine ∧ Pv (i + 1) (upd H2 D (.lst (ys ++ [y])))) (hd : ∀ H, Pv n H → Q (.ref D) H) :
    ∃ W : Nat → Nat → Hp → Prop, (∃ m, W 0 m (upd H1 D (.lst []))) ∧ ∀ i m H, W i m H →
      ((Itr lo n).stop i H ∧ Q (.ref D) H) ∨ ((Itr lo n).go i H ∧ ∃ N : Hp → Prop, (∀ H', N H' → ∃ m', m' < m ∧ W (i + 1) m' H') ∧ ∀ v H', (Itr lo n).yld i H v H' → te (bst fv σ (some v)) H' fun y H2 => ∃ ys, H2 D = some (.lst ys) ∧ ys.length < sizeLine ∧ N (upd H2 D (.lst (ys ++ [y])))) := by
  refine ⟨fun i m H => m = n - i ∧ i ≤ n ∧ Pv i H, ⟨n, by simp, Nat.zero_le _, h0⟩, ?_⟩
  rintro i m H ⟨rfl, hi, p⟩
  by_cases hlt : i < n
  · refine .inr ⟨hlt, Pv (i + 1), fun H' p' => ⟨n - (i + 1), by omega, rfl, hlt, p'⟩, fun v H' y => ?_⟩
    obtain ⟨e, y⟩ := y
    subst e y
    exact hs i _ hlt p
  · have e : i = n := by omega
    subst e
    exact .inl ⟨Nat.le_refl _, hd H p⟩
theorem sub_nil {cells : List (Str × Addr)} : ∀ y c, ([] : List (Str × Addr)).lookup y = some c → cells.lookup y = some c := fun _ _ h => nomatch h
theorem sub_cons {n : Str} {c0 : Addr} {r cells : List (Str × Addr)} (h0 : cells.lookup n = some c0) (h : ∀ y c, r.lookup y = some c → cells.lookup y = some c) : ∀ y c, ((n, c0) :: r).lookup y = some c → cells.lookup y = some c := fun y c q => by
  rw [List.lookup_cons] at q
  cases e : y == n with
  | true =>
    rw [e] at q
    cases q
    rw [eq_of_beq e]; exact h0
  | false =>
    rw [e] at q
    exact h y c q
theorem has_of {l : List (Str × NameKind)} {cl : List (Str × Addr)} (h : (l.all fun p => (p.2 != .cell && p.2 != .free) || (cl.lookup p.1).isSome) = true) : ∀ y, (l.lookup y = some .cell ∨ l.lookup y = some .free) → ∃ c, cl.lookup y = some c := fun y hy => by
  have key : ∀ k, l.lookup y = some k → (k = .cell ∨ k = .free) → ∃ c, cl.lookup y = some c := fun k e hk => by
    have q := List.all_eq_true.mp h (y, k) (PySem.mem_of_lookup e)
    have z : (k != .cell && k != .free) = false := by rcases hk with rfl | rfl <;> rfl
    rw [show ((y, k).2 != .cell && (y, k).2 != .free) = false from z, Bool.false_or] at q
    exact Option.isSome_iff_exists.mp q
  rcases hy with e | e
  · exact key _ e (.inl rfl)
  · exact key _ e (.inr rfl)
def FvOk (X : Cx) (x : Str) (scope : Scope) (cl : List (Str × Addr)) (fv : List (Nat × Str)) : Prop :=
  ∀ p ∈ fv, p.2 ≠ x ∧ X.N[p.1]? = some p.2 ∧ (X.env.scope.names.lookup p.2 = some .cell ∨ X.env.scope.names.lookup p.2 = some .free) ∧
    ((relabel scope X.env).names.lookup p.2 = some .cell ∨ (relabel scope X.env).names.lookup p.2 = some .free) ∧ ∃ c, cl.lookup p.2 = some c
theorem fv_nil {X : Cx} {x : Str} {scope : Scope} {cl : List (Str × Addr)} : FvOk X x scope cl [] := fun _ h => nomatch h
theorem fv_cons {X : Cx} {x : Str} {scope : Scope} {cl : List (Str × Addr)} {fv : List (Nat × Str)} (i : Nat) (y : Str) (h1 : y ≠ x) (h2 : X.N[i]? = some y) (h3 : X.env.scope.names.lookup y = some .cell ∨ X.env.scope.names.lookup y = some .free)
    (h4 : (relabel scope X.env).names.lookup y = some .cell ∨ (relabel scope X.env).names.lookup y = some .free) (h5 : ∃ c, cl.lookup y = some c) (r : FvOk X x scope cl fv) : FvOk X x scope cl ((i, y) :: fv) := fun p hp => by
  rcases List.mem_cons.mp hp with rfl | hp
  · exact ⟨h1, h2, h3, h4, h5⟩
  · exact r p hp
theorem blkok {X : Cx} {x : Str} {fv : List (Nat × Str)} {scope : Scope} {cl : List (Str × Addr)} (clos : closureFor scope X.env = pure cl) (sub : ∀ y c, cl.lookup y = some c → X.env.cells.lookup y = some c) (fvs : FvOk X x scope cl fv)
    (kind : scope.kind = .function := by rfl) (here : scope.names.lookup x = some .local := by rfl) (nocell : ∀ y ∈ scope.names, y.2 ≠ .cell := by decide +kernel)
    (names : ∀ y ∈ scope.names, y.2 = .local → scope.names.lookup y.1 = some .local := by decide +kernel)
    (has : ((relabel scope X.env).names.all fun p => (p.2 != .cell && p.2 != .free) || (cl.lookup p.1).isSome) = true := by rfl) : BlkOk X x fv scope cl :=
  ⟨clos, nocell, kind, names, here, sub, has_of has, fvs⟩
section
variable {X : Cx}
theorem call_isinst : CallR X (.builtin "isinstance") (fun xs H Q => ∃ x n t b, xs = [x, .ty n] ∧ TyOf X.K H x t ∧ PySem.W.kitOne X.K t (.type n) = some b ∧ Q (.bl b) H) := by
  intro pins s σ H xs us Q I rv h
  obtain ⟨x, n, t, b, rfl, ty, e, q⟩ := h
  cases rv with
  | cons r rr =>
    cases rr with
    | cons r' rr =>
      cases rr
      cases r'
      exact isinst_ok I r ty e fun tk => ⟨.bl b, H, I.tok _, rfl, q⟩
theorem mt_bitlen : MtR X "int.bit_length" (fun x xs H Q => ∃ i, x = .int i ∧ xs = [] ∧ Q (.int (Builtin.Int.intBits i : Nat)) H) := by
  intro pins s σ H x xs v us Q I rx rv h
  obtain ⟨i, rfl, rfl, q⟩ := h
  cases rv
  obtain ⟨t, rfl⟩ := rx
  exact call_gives F.slot_int_bit_length (typeIs_int s i t) F.entry_int_bit_length (F.args_int_bit_length_1 _) (PySem.AutoIntG2.int_bit_length_int_0 i t) ⟨.int _, H, I.tok _, ⟨_, rfl⟩, q⟩
end
theorem intBits_le_of {i : Int} {k : Nat} (h : i.natAbs < 2 ^ k) : Builtin.Int.intBits i ≤ k := by
  unfold Builtin.Int.intBits
  split
  · exact Nat.zero_le _
  · rename_i hz
    have hz' : i ≠ 0 := by simpa using hz
    have : i.natAbs.log2 < k := (Nat.log2_lt (by omega)).mpr h
    omega
theorem mulOk_of {i j : Int} {k l : Nat} (h1 : i.natAbs < 2 ^ k) (h2 : j.natAbs < 2 ^ l) (h : k + l ≤ 134217728) : IntMulOk i j := IntMulOk.of_le (intBits_le_of h1) (intBits_le_of h2) h
theorem op_fdivB {X : Cx} : OpR X (binaryOp .FloorDiv) (rI (fun _ j => j ≠ 0 ∧ j.natAbs < 2 ^ 9000) fun i j => .int (i.fdiv j)) :=
  opI fun _ j _ _ _ _ _ hc q => floordiv_int hc.1 q (.inl (PyProof.noPylong_of_log2 ((Nat.log2_lt (by have := hc.1; omega)).mpr hc.2)))
end L2
namespace L2
open PySem PySem.Spec PyProof.Rows
section
variable {σ : St} {H : Hp} {Q : VK} {D : Ends} {t u : TS} {te ta tb tc to ti : TE} {tt : TT} {tA : TA} {i : Nat} {x y v : V} {r r' : R2} {QT : Bool → Hp → Prop} {QA : List V → Hp → Prop}
theorem a_seq : tSeq t u D σ H = t { D with nx := u D } σ H := rfl
theorem a_next : tNext D σ H = D.nx σ H := rfl
theorem a_brk : tBreak D σ H = D.bk σ H := rfl
theorem a_cnt : tCont D σ H = D.ct σ H := rfl
theorem a_drop : tDrop te D σ H = te σ H fun _ H1 => D.nx σ H1 := rfl
theorem a_ret : tRet te D σ H = te σ H D.rt := rfl
theorem a_retN : tRetN D σ H = D.rt .non H := rfl
theorem a_if : tIfS tt t u D σ H = tt σ H fun b H1 => if b = true then t D σ H1 else u D σ H1 := rfl
theorem a_asg {g : TG} : tAsg te g D σ H = te σ H fun x H1 => g x σ H1 D.nx := rfl
theorem a_gname {Q : St → Hp → Prop} : gName i v σ H Q = Q (σ.set i (some v)) H := rfl
theorem a_gsub {ts : TSet} {Q : St → Hp → Prop} : gSub to ti ts v σ H Q = to σ H fun o H1 => ti σ H1 fun i H2 => ts o i v H2 fun H3 => Q σ H3 := rfl
theorem a_gtup {K : PySem.W.Frag} {n : Nat} {ts : TGs} {Q : St → Hp → Prop} : gTup K n ts v σ H Q = ∃ a xs, v = .ref a ∧ SqT K H a xs ∧ xs.length = n ∧ ts xs σ H Q := rfl
theorem a_gnil {vs : List V} {Q : St → Hp → Prop} : gNil vs σ H Q = (vs = [] ∧ Q σ H) := rfl
theorem a_gcons {g : TG} {gs : TGs} {vs : List V} {Q : St → Hp → Prop} : gCons g gs vs σ H Q = ∃ v r, vs = v :: r ∧ g v σ H fun σ' H' => gs r σ' H' Q := rfl
theorem a_aug {ip : TIp} : tAug i te ip D σ H = ∃ x, σ[i]? = some (some x) ∧ te σ H fun y H1 => ip x y H1 fun z H2 => D.nx (σ.set i (some z)) H2 := rfl
theorem a_augS {tget : V → V → Hp → VK → Prop} {tip : TIp} {tset : TSet} : tAugS to ti te tget tip tset D σ H = to σ H fun o H1 => ti σ H1 fun i H2 => tget o i H2 fun x H3 => te σ H3 fun y H4 => tip x y H4 fun z H5 => tset o i z H5 fun H6 => D.nx σ H6 := rfl
theorem a_ipI {f : Int → Int → Int} : ipI f x y H Q = ∃ i j, x = .int i ∧ y = .int j ∧ Q (.int (f i j)) H := rfl
theorem a_var : tVar i σ H Q = ∃ v, σ[i]? = some (some v) ∧ Q v H := rfl
theorem a_c : tC v σ H Q = Q v H := rfl
theorem a_op : tOp r ta tb σ H Q = ta σ H fun x H1 => tb σ H1 fun y H2 => r x y H2 Q := rfl
theorem a_un {r : V → Hp → VK → Prop} : tUn r ta σ H Q = ta σ H fun x H1 => r x H1 Q := rfl
theorem a_rI {C : Int → Int → Prop} {g : Int → Int → V} : rI C g x y H Q = ∃ i j, x = .int i ∧ y = .int j ∧ C i j ∧ Q (g i j) H := rfl
theorem a_rI0 {g : Int → Int → V} : rI0 g x y H Q = ∃ i j, x = .int i ∧ y = .int j ∧ Q (g i j) H := rfl
theorem a_rU {g : Int → V} : rU g x H Q = ∃ i, x = .int i ∧ Q (g i) H := rfl
theorem a_eqI {i j : Int} : rEq (.int i) (.int j) H Q = Q (.bl (decide (i = j))) H := by
  show (true = true ∧ Q (.bl (decide (V.int i = V.int j))) H) = _
  rw [show decide (V.int i = V.int j) = decide (i = j) by rw [dec_int]; exact Bool.beq_eq_decide_eq i j]
  simp
theorem a_neI {i j : Int} : rNe (.int i) (.int j) H Q = Q (.bl (!decide (i = j))) H := by
  show (true = true ∧ Q (.bl (!decide (V.int i = V.int j))) H) = _
  rw [show decide (V.int i = V.int j) = decide (i = j) by rw [dec_int]; exact Bool.beq_eq_decide_eq i j]
  simp
theorem a_eqB {i j : Bool} : rEq (.bl i) (.bl j) H Q = Q (.bl (decide (i = j))) H := by
  show (true = true ∧ Q (.bl (decide (V.bl i = V.bl j))) H) = _
  cases i <;> cases j <;> simp
theorem a_neB {i j : Bool} : rNe (.bl i) (.bl j) H Q = Q (.bl (!decide (i = j))) H := by
  show (true = true ∧ Q (.bl (!decide (V.bl i = V.bl j))) H) = _
  cases i <;> cases j <;> simp
theorem a_tB : tB te σ H QT = te σ H fun x H1 => ∃ c, x = .bl c ∧ QT c H1 := rfl
theorem a_test : tTest te σ H QT = te σ H fun x H' => ∃ k, x = .bl k ∧ QT k H' := rfl
theorem a_and {tt' : TT} : tAnd tt tt' σ H QT = tt σ H fun c H1 => if c = true then tt' σ H1 QT else QT false H1 := rfl
theorem a_or {tt' : TT} : tOr tt tt' σ H QT = tt σ H fun c H1 => if c = true then QT true H1 else tt' σ H1 QT := rfl
theorem a_not : tNot tt σ H QT = tt σ H fun c H1 => QT (!c) H1 := rfl
theorem a_andV : tAndV ta tb σ H Q = ta σ H fun x H1 => ∃ c, x = .bl c ∧ if c = true then tb σ H1 Q else Q (.bl false) H1 := rfl
theorem a_orV : tOrV ta tb σ H Q = ta σ H fun x H1 => ∃ c, x = .bl c ∧ if c = true then Q (.bl true) H1 else tb σ H1 Q := rfl
theorem a_notV : tNotV ta σ H Q = ta σ H fun x H1 => ∃ c, x = .bl c ∧ Q (.bl (!c)) H1 := rfl
theorem a_ifE : tIf tt ta tb σ H Q = tt σ H fun c H1 => if c = true then ta σ H1 Q else tb σ H1 Q := rfl
theorem a_chain : tChain r r' ta tb tc σ H Q = ta σ H fun x H1 => tb σ H1 fun y H2 => r x y H2 fun z H3 => ∃ k, z = .bl k ∧ (if k = true then tc σ H3 fun w' H4 => r' y w' H4 Q else Q (.bl false) H3) := rfl
theorem a_nil : tNil σ H QA = QA [] H := rfl
theorem a_cons : tCons ta tA σ H QA = ta σ H fun x H1 => tA σ H1 fun xs H2 => QA (x :: xs) H2 := rfl
theorem a_lst : tLst tA σ H Q = tA σ H fun xs H1 => xs.length ≤ sizeLine ∧ ∀ p, H1 p = none → Q (.ref p) (upd H1 p (.lst xs)) := rfl
theorem a_tup : tTup tA σ H Q = tA σ H fun xs H1 => xs.length ≤ sizeLine ∧ ∀ p, H1 p = none → Q (.ref p) (upd H1 p (.tup xs)) := rfl
theorem a_call {sp : Sp} {dvs : List V} {E : XK} : tCall sp dvs E tA σ H Q = tA σ H fun vs H1 => sp (vs ++ dvs) H1 Q E := rfl
theorem a_cb {r : List V → Hp → VK → Prop} : tCB r tA σ H Q = tA σ H fun vs H1 => r vs H1 Q := rfl
theorem a_bm0 {K : PySem.W.Frag} {T : String} {r : V → List V → Hp → VK → Prop} : tBM0 K T r to σ H Q = to σ H fun x H1 => tyV K T x H1 ∧ r x [] H1 Q := rfl
theorem a_bm {K : PySem.W.Frag} {T : String} {r : V → List V → Hp → VK → Prop} : tBM K T r to tA σ H Q = to σ H fun x H1 => tyV K T x H1 ∧ tA σ H1 fun xs H2 => r x xs H2 Q := rfl
theorem a_sl {r : V → Option Int → Option Int → Hp → VK → Prop} {tl th : TO} : tSl r te tl th σ H Q = te σ H fun x H1 => tl σ H1 fun l H2 => th σ H2 fun u H3 => r x l u H3 Q := rfl
theorem a_nopart {Q : Option Int → Hp → Prop} : tNoPart σ H Q = Q none H := rfl
theorem a_part {Q : Option Int → Hp → Prop} : tPart te σ H Q = te σ H fun x H1 => ∃ i, x = .int i ∧ Q (some i) H1 := rfl
theorem a_tyI {K : PySem.W.Frag} {T : String} {i : Int} : tyV K T (.int i) H = (T = "int") := rfl
theorem a_tyL {K : PySem.W.Frag} {p : Addr} {xs : List V} (h : SqL K H p xs) : tyV K "list" (.ref p) H := .inl ⟨rfl, xs, h⟩
end
def Loop (J : It) (g : TG) (tb : TS) (D : Ends) (σ : St) (H : Hp) : Prop := ∃ W : Nat → Nat → St → Hp → Prop, (∃ m, W 0 m σ H) ∧ ∀ i m σ H, W i m σ H →
  (J.stop i H ∧ D.nx σ H) ∨ (J.go i H ∧ ∃ N : St → Hp → Prop, (∀ σ' H', N σ' H' → ∃ m', m' < m ∧ W (i + 1) m' σ' H') ∧ ∀ x H', J.yld i H x H' → g x σ H' fun σ2 H2 => tb { D with nx := N, ct := N, bk := D.nx } σ2 H2)
theorem a_for {wi : TI} {g : TG} {tb : TS} {D : Ends} {σ : St} {H : Hp} : tFor wi g tb D σ H = wi σ H fun J H1 => Loop J g tb D σ H1 := rfl
def CLoop (J : It) (fv : List (Nat × Str)) (te : TE) (Q : VK) (σ : St) (H1 : Hp) (D : Addr) : Prop := ∃ W : Nat → Nat → Hp → Prop, (∃ m, W 0 m (upd H1 D (.lst []))) ∧ ∀ i m H, W i m H →
  (J.stop i H ∧ Q (.ref D) H) ∨ (J.go i H ∧ ∃ N : Hp → Prop, (∀ H', N H' → ∃ m', m' < m ∧ W (i + 1) m' H') ∧ ∀ v H', J.yld i H v H' → te (bst fv σ (some v)) H' fun y H2 => ∃ ys, H2 D = some (.lst ys) ∧ ys.length < sizeLine ∧ N (upd H2 D (.lst (ys ++ [y]))))
theorem a_comp {fv : List (Nat × Str)} {wi : TI} {te : TE} {σ : St} {H : Hp} {Q : VK} : tComp fv wi te σ H Q = wi σ H fun J H1 => ∀ D, H1 D = none → CLoop J fv te Q σ H1 D := rfl
theorem a_ilist {K : PySem.W.Frag} {tl : TE} {σ : St} {H : Hp} {R : It → Hp → Prop} : iList K tl σ H R = tl σ H fun x H1 => ∃ a, x = .ref a ∧ (∃ xs, SqL K H1 a xs) ∧ R (Itl K a) H1 := rfl
theorem a_itup {K : PySem.W.Frag} {tl : TE} {σ : St} {H : Hp} {R : It → Hp → Prop} : iTup K tl σ H R = tl σ H fun x H1 => ∃ a, x = .ref a ∧ (∃ xs, SqT K H1 a xs) ∧ R (Itt K a) H1 := rfl
theorem a_irng1 {ta : TA} {σ : St} {H : Hp} {R : It → Hp → Prop} : iRng1 ta σ H R = ta σ H fun vs H1 => ∃ j : Int, vs = [.int j] ∧ -(2 ^ 62) ≤ j ∧ j < 2 ^ 62 ∧ R (Itr 0 j.toNat) H1 := rfl
theorem a_irng2 {ta : TA} {σ : St} {H : Hp} {R : It → Hp → Prop} : iRng2 ta σ H R = ta σ H fun vs H1 => ∃ i j : Int, vs = [.int i, .int j] ∧ (-(2 ^ 62) ≤ i ∧ i < 2 ^ 62 ∧ -(2 ^ 62) ≤ j ∧ j < 2 ^ 62) ∧ R (Itr i (j - i).toNat) H1 := rfl
theorem a_irng3 {ta : TA} {σ : St} {H : Hp} {R : It → Hp → Prop} : iRng3 ta σ H R = ta σ H fun vs H1 => ∃ (i j k : Int) (n : Nat), vs = [.int i, .int j, .int k] ∧ k ≠ 0 ∧ k.natAbs < 1073741824 ∧ Builtin.Range.small i j k = true ∧ Builtin.Range.rangeSize i j k = n ∧ R (Itrs i k n) H1 := rfl
theorem while_of {c : TT} {tb : TS} {D : Ends} {σ : St} {H : Hp} (Pv : Nat → St → Hp → Prop) (m : Nat) (h0 : Pv m σ H)
    (hs : ∀ m σ H, Pv m σ H → c σ H fun b H1 => if b = true then ∃ N : St → Hp → Prop, (∀ σ' H', N σ' H' → ∃ m', m' < m ∧ Pv m' σ' H') ∧ tb { D with nx := N, ct := N, bk := D.nx } σ H1 else D.nx σ H1) : tWhile c tb D σ H := ⟨Pv, ⟨m, h0⟩, hs⟩
section
variable {σ : St} {H : Hp} {Q : VK} {x y v : V} {K : PySem.W.Frag}
theorem a_rslL {lo hi : Option Int} : rSlL K x lo hi H Q = ∃ a xs, x = .ref a ∧ SqL K H a xs ∧ ∀ p, H p = none → Q (.ref p) (upd H p (.lst (cutV xs lo hi))) := rfl
theorem a_ixL : rIxL K x y H Q = ∃ p xs i v, x = .ref p ∧ y = .int i ∧ SqL K H p xs ∧ atI xs i = some v ∧ Q v H := rfl
theorem a_ixT : rIxT K x y H Q = ∃ p xs i v, x = .ref p ∧ y = .int i ∧ SqT K H p xs ∧ atI xs i = some v ∧ Q v H := rfl
theorem a_setL {Q : Hp → Prop} : rSetL x y v H Q = ∃ p xs k j, x = .ref p ∧ y = .int k ∧ H p = some (.lst xs) ∧ ixN xs.length k = some j ∧ Q (upd H p (.lst (xs.set j v))) := rfl
theorem a_app {vs : List V} : rAppend x vs H Q = ∃ l xs y, x = .ref l ∧ vs = [y] ∧ H l = some (.lst xs) ∧ xs.length < sizeLine ∧ Q .non (upd H l (.lst (xs ++ [y]))) := rfl
theorem cutV_map (ns : List Int) (lo hi : Option Int) : cutV (ns.map V.int) lo hi = ((ns.drop (HT.sIx ns.length 0 lo)).take (HT.sIx ns.length ns.length hi - HT.sIx ns.length 0 lo)).map V.int := by
  unfold cutV
  rw [List.length_map, List.map_take, List.map_drop]
end
theorem bt_len : bootBuiltins "len" = some (.builtin "len") := by decide +kernel
theorem bt_abs : bootBuiltins "abs" = some (.builtin "abs") := by decide +kernel
theorem bt_isinstance : bootBuiltins "isinstance" = some (.builtin "isinstance") := by decide +kernel
theorem bt_min : bootBuiltins "min" = some (.builtin "min") := by decide +kernel
theorem bt_max : bootBuiltins "max" = some (.builtin "max") := by decide +kernel
theorem bt_int : bootBuiltins "int" = some (.type "int") := by decide +kernel
theorem bt_bool : bootBuiltins "bool" = some (.type "bool") := by decide +kernel
theorem bt_list : bootBuiltins "list" = some (.type "list") := by decide +kernel
theorem bt_tuple : bootBuiltins "tuple" = some (.type "tuple") := by decide +kernel
def tMid (t u : TS) : TS := fun D σ H => ∃ M : St → Hp → Prop, t { D with nx := M } σ H ∧ ∀ σ' H', M σ' H' → u D σ' H'
theorem pss_mid {X : Cx} {st : Stmt} {rest : List Stmt} {t u : TS} (h1 : PS X st t) (h2 : PSs X rest u) : PSs X (st :: rest) (tMid t u) := by
  intro pins s σ H D I h
  obtain ⟨M, h, hM⟩ := h
  refine wpAny_execs_cons (thn (h1 pins s σ H { D with nx := M } I h) fun f s1 q => ?_)
  cases f with
  | next =>
    obtain ⟨σ', H', I', q⟩ := q
    exact h2 pins s1 σ' H' D I' (hM σ' H' q)
  | ret v => exact q
  | brk => exact q
  | cont => exact q
theorem mid_of {t u : TS} {D : Ends} {σ : St} {H : Hp} (M : St → Hp → Prop) (h1 : t { D with nx := M } σ H) (h2 : ∀ σ' H', M σ' H' → u D σ' H') : tMid t u D σ H := ⟨M, h1, h2⟩
theorem a_cxK {CX : CXT} {P : Program} {w : World} {K : PySem.W.Frag} {mg : Str → Option Value} {base : Heap} {N : List Str} {qual : Str} {scope : Scope} {f : Addr} {cd : Value} {A : Around} {outer : List Env} {s : Shared} {H : Hp} {E : XK} :
    (cxOf CX P w K mg base N qual scope f cd A outer s H E).K = K := rfl
section
variable {K : PySem.W.Frag} {a : Addr} {xs : List V} {g : TG} {tb : TS} {D : Ends} {σ : St} {H H1 : Hp} {fv : List (Nat × Str)} {te : TE} {Q : VK} {L : Addr} {lo c : Int} {n : Nat}
theorem cl_list (Pv : Nat → Hp → Prop) (h0 : Pv 0 (upd H1 L (.lst []))) (hl : ∀ i H, i ≤ xs.length → Pv i H → SqL K H a xs)
    (hs : ∀ i v H, xs[i]? = some v → Pv i H → te (bst fv σ (some v)) H fun y H2 => ∃ ys, H2 L = some (.lst ys) ∧ ys.length < sizeLine ∧ Pv (i + 1) (upd H2 L (.lst (ys ++ [y])))) (hd : ∀ H, Pv xs.length H → Q (.ref L) H) :
    CLoop (Itl K a) fv te Q σ H1 L := comp_list Pv h0 hl hs hd
theorem cl_range (Pv : Nat → Hp → Prop) (h0 : Pv 0 (upd H1 L (.lst [])))
    (hs : ∀ i H, i < n → Pv i H → te (bst fv σ (some (.int (lo + i)))) H fun y H2 => ∃ ys, H2 L = some (.lst ys) ∧ ys.length < sizeLine ∧ Pv (i + 1) (upd H2 L (.lst (ys ++ [y])))) (hd : ∀ H, Pv n H → Q (.ref L) H) :
    CLoop (Itr lo n) fv te Q σ H1 L := comp_range Pv h0 hs hd
theorem lp_list (Pv : Nat → St → Hp → Prop) (h0 : Pv 0 σ H) (hl : ∀ i σ H, i ≤ xs.length → Pv i σ H → SqL K H a xs)
    (hs : ∀ i v σ H, xs[i]? = some v → Pv i σ H → g v σ H fun σ2 H2 => tb { D with nx := Pv (i + 1), ct := Pv (i + 1), bk := D.nx } σ2 H2) (hd : ∀ σ H, Pv xs.length σ H → D.nx σ H) : Loop (Itl K a) g tb D σ H := for_list Pv h0 hl hs hd
theorem lp_range (Pv : Nat → St → Hp → Prop) (h0 : Pv 0 σ H)
    (hs : ∀ i σ H, i < n → Pv i σ H → g (.int (lo + i)) σ H fun σ2 H2 => tb { D with nx := Pv (i + 1), ct := Pv (i + 1), bk := D.nx } σ2 H2) (hd : ∀ σ H, Pv n σ H → D.nx σ H) : Loop (Itr lo n) g tb D σ H := for_range Pv h0 hs hd
theorem lp_ranges (Pv : Nat → St → Hp → Prop) (h0 : Pv 0 σ H)
    (hs : ∀ i σ H, i < n → Pv i σ H → g (.int (lo + i * c)) σ H fun σ2 H2 => tb { D with nx := Pv (i + 1), ct := Pv (i + 1), bk := D.nx } σ2 H2) (hd : ∀ σ H, Pv n σ H → D.nx σ H) : Loop (Itrs lo c n) g tb D σ H := for_ranges Pv h0 hs hd
end
theorem small_two {j : Int} (h0 : 0 ≤ j) (h1 : j < 2 ^ 60) : Builtin.Range.small 0 j 2 = true := by
  unfold Builtin.Range.small
  simp only [Builtin.Range.rangeFitsLong, Builtin.Range.rangeSize, Bool.and_eq_true, Bool.or_eq_true, decide_eq_true_eq, beq_iff_eq, show (2 : Int) > 0 by decide, if_true]
  split <;> omega
end L2
namespace L2
open PySem PySem.Spec PyProof.Rows
section
variable {X : Cx}
theorem get_list : PGet X (rIxL X.K) := by
  intro pins s σ H o i ov iv Q I ro ri h
  obtain ⟨p, xs, i, z, rfl, rfl, hq, he, q⟩ := h
  cases ro
  obtain ⟨t, rfl⟩ := ri
  obtain ⟨its, r, pl, hz⟩ := I.list hq
  obtain ⟨j, h1, h2, h3, h4, h5⟩ := atI_get he
  obtain ⟨w, ew, rw'⟩ := r.get h2
  have hl := r.length
  have hn := line63
  have fin : EP X pins σ Q w s := ⟨z, H, I, rw', q⟩
  by_cases h0 : 0 ≤ i
  · have hj : i.toNat = j := by
      rw [seqIndex_of h0 h5] at h1
      exact Option.some.inj h1
    exact wpAny_getItem_list pl.isList h0 (by omega) (by rw [hj]; simpa using ew) fin
  · have hj : (i + (its.toArray.size : Int)).toNat = j := by
      rw [seqIndex_neg (by omega) h4] at h1
      rw [List.size_toArray, ← hl]
      exact Option.some.inj h1
    exact wpAny_getItem_list_neg pl.isList (by omega) (by rw [List.size_toArray] <;> omega) (by omega) (by rw [hj]; simpa using ew) fin
mutual
inductive DV (K : PySem.W.Frag) (H : Hp) : V → PyData → Prop
  | non : DV K H .non .none
  | bl (b) : DV K H (.bl b) (.bool b)
  | int (i) : DV K H (.int i) (.int i)
  | str (x) : DV K H (.str x) (.str x)
  | lst {a xs ds} : SqL K H a xs → DVs K H xs ds → DV K H (.ref a) (.list ds)
  | tup {a xs ds} : SqT K H a xs → DVs K H xs ds → DV K H (.ref a) (.tuple ds)
inductive DVs (K : PySem.W.Frag) (H : Hp) : List V → List PyData → Prop
  | nil : DVs K H [] []
  | cons {x xs d ds} : DV K H x d → DVs K H xs ds → DVs K H (x :: xs) (d :: ds)
end
theorem DVs.ints {K : PySem.W.Frag} {H : Hp} : ∀ ns : List Int, DVs K H (ns.map V.int) (ns.map PyData.int)
  | [] => .nil
  | n :: r => .cons (.int n) (DVs.ints r)
theorem DV.ints {K : PySem.W.Frag} {H : Hp} {a : Addr} {ns : List Int} (h : SqL K H a (ns.map V.int)) : DV K H (.ref a) (.list (ns.map PyData.int)) := .lst h (DVs.ints ns)
mutual
theorem DV.reads {pins : List (Addr × Obj)} {σ : St} {H : Hp} {s : Shared} (I : Inv X pins σ H s) : ∀ {x : V} {d : PyData} {v : Value}, DV X.K H x d → RelV x v → ∃ as, Reads s.heap v d as
  | _, _, _, .non, r => by cases r; exact ⟨_, .none⟩
  | _, _, _, .bl b, r => by cases r; exact ⟨_, .bool b⟩
  | _, _, _, .int i, r => by obtain ⟨t, rfl⟩ := r; exact ⟨_, .int i t⟩
  | _, _, _, .str x, r => by obtain ⟨t, rfl⟩ := r; exact ⟨_, .str x t⟩
  | _, _, _, .lst hq hs, r => by
    cases r
    obtain ⟨its, rv, ⟨o, n, e, c, _, hd⟩, _⟩ := I.list hq
    obtain ⟨as, ra⟩ := DVs.reads I hs rv
    exact ⟨_, .list e c hd (by simpa using ra)⟩
  | _, _, _, .tup hq hs, r => by
    cases r
    obtain ⟨its, rv, ⟨o, e, c, n, hd⟩, _⟩ := I.tuple hq
    obtain ⟨as, ra⟩ := DVs.reads I hs rv
    exact ⟨_, .tuple e c hd (by simpa using ra)⟩
theorem DVs.reads {pins : List (Addr × Obj)} {σ : St} {H : Hp} {s : Shared} (I : Inv X pins σ H s) : ∀ {xs : List V} {ds : List PyData} {vs : List Value}, DVs X.K H xs ds → Vals xs vs → ∃ as, ReadsAll s.heap vs ds as
  | _, _, _, .nil, r => by cases r; exact ⟨_, .nil⟩
  | _, _, _, .cons h t, r => by
    cases r with
    | cons r1 r2 =>
      obtain ⟨as, ra⟩ := DV.reads I h r1
      obtain ⟨bs, rb⟩ := DVs.reads I t r2
      exact ⟨_, .cons ra rb⟩
end
theorem op_eqD (hu : X.A.units + 64 < cLine) : OpR X (compareOp .Eq) (fun x y H Q => ∃ da db, DV X.K H x da ∧ DV X.K H y db ∧ da.canLay0 = true ∧ db.canLay0 = true ∧ da.depth ≤ 64 ∧ Q (.bl (PyData.eqv da db)) H) := by
  intro pins s σ H x y v u Q I rx ry h
  obtain ⟨da, db, hx, hy, c1, c2, hd, q⟩ := h
  obtain ⟨as, ra⟩ := hx.reads I rx
  obtain ⟨bs, rb⟩ := hy.reads I ry
  exact PySem.SeqAt.eqOverData _ _ _ _ _ _ _ _ _ _ _ _ ra rb c1 c2 (by omega) ⟨.bl _, H, I, rfl, q⟩
theorem op_neD (hu : X.A.units + 64 < cLine) : OpR X (compareOp .NotEq) (fun x y H Q => ∃ da db, DV X.K H x da ∧ DV X.K H y db ∧ da.canLay0 = true ∧ db.canLay0 = true ∧ da.depth ≤ 64 ∧ Q (.bl (!PyData.eqv da db)) H) := by
  intro pins s σ H x y v u Q I rx ry h
  obtain ⟨da, db, hx, hy, c1, c2, hd, q⟩ := h
  obtain ⟨as, ra⟩ := hx.reads I rx
  obtain ⟨bs, rb⟩ := hy.reads I ry
  exact PySem.SeqAt.neOverData _ _ _ _ _ _ _ _ _ _ _ _ ra rb c1 c2 (by omega) ⟨.bl _, H, I, rfl, q⟩
end
theorem eqvAll_ints : ∀ xs ys : List Int, PyData.eqvAll (xs.map PyData.int) (ys.map PyData.int) = decide (xs = ys)
  | [], [] => by simp [PyData.eqvAll]
  | [], _ :: _ => by simp [PyData.eqvAll]
  | _ :: _, [] => by simp [PyData.eqvAll]
  | x :: xs, y :: ys => by
    have ih := eqvAll_ints xs ys
    simp only [List.map_cons, PyData.eqvAll, PyData.eqv, ih]
    by_cases h : x = y
    · subst h; simp
    · simp [h]
theorem lay_ints : ∀ xs : List Int, PyData.canLayAll0 (xs.map PyData.int) = true
  | [] => rfl
  | _ :: r => by simp [PyData.canLayAll0, PyData.canLay0, lay_ints r]
theorem depth_ints : ∀ xs : List Int, PyData.depthAll (xs.map PyData.int) = 0
  | [] => rfl
  | _ :: r => by simp [PyData.depthAll, PyData.depth, depth_ints r]
def Ite (K : PySem.W.Frag) (a : Addr) : It :=
  ⟨fun i H => ∃ xs x, SqL K H a xs ∧ xs[i]? = some x, fun i H v H' => ∃ p x, H p = none ∧ v = .ref p ∧ H' = upd H p (.tup [.int i, x]) ∧ ∀ xs, SqL K H a xs → xs[i]? = some x, fun i H => ∃ xs, SqL K H a xs ∧ xs.length ≤ i⟩
theorem turn_enum {P : Program} {w : World} {K : PySem.W.Frag} {elts : List Expr} {tk : Nat} {tpos : Pos} (a e it : Addr) (hne : e ≠ it) :
    Turn P w K (.Tuple elts tk tpos) (Ite K a) [e, it] e (fun i h => (∃ old, IsEnum h e it i old) ∧ h.IsListIter it a i) where
  mem := by simp
  obj := fun i h st b hb => by
    obtain ⟨⟨old, he⟩, o, ho, c, d⟩ := st
    rcases List.mem_cons.mp hb with rfl | hb
    · exact ⟨_, he, fun v z => by
        have z' : Data.fields _ = Data.cell v := z
        cases z'⟩
    · rw [List.mem_singleton.mp hb]
      exact ⟨o, ho, fun v z => by rw [d] at z; cases z⟩
  keep := fun i h h' st k => by
    obtain ⟨⟨old, he⟩, hit⟩ := st
    exact ⟨⟨old, k e (by simp) _ he⟩, hit.at fun o q => k it (by simp) o q⟩
  item := by
    intro X hP hw hK hc i pins s σ H E I hf st hg
    subst hP hw hK
    obtain ⟨xs, x, hq, hx⟩ := hg
    obtain ⟨its, rv, pl, hz⟩ := I.list hq
    obtain ⟨u, hu, ru⟩ := rv.get hx
    obtain ⟨⟨old, he⟩, hit⟩ := st
    have fe := hf e (by simp)
    have fi := hf it (by simp)
    refine wpAny_pyNext_enum_item he hit pl.isList (x := u) (by simpa using hu) hne fun h1 ho hit1 hT hsz hk => ?_
    refine ⟨_, rfl, wpAny_letOwnedTupleGo_enum ho fun h2 he2 hs2 => ?_⟩
    have hp : H s.heap.objs.size = none := I.hok.fresh (Nat.le_refl _)
    have hpe : s.heap.objs.size ≠ e := Nat.ne_of_gt (Heap.lt_size he)
    have k2 : ∀ b o, b ∉ [e, it] → s.heap.get? b = some o → h2.get? b = some o := fun b o hb q =>
      (hs2.2 b fun z => hb (by simp [z])).trans (hk b o (fun z => hb (by simp [z])) (fun z => hb (by simp [z])) q)
    have hT2 : h2.get? s.heap.objs.size = some { cls := .type "tuple", data := .seq #[.int i s.toks, u] } := (hs2.2 _ hpe).trans hT
    have nch : ∀ b u, H b = some u → b ∉ [e, it] := fun b u q hb => by
      rcases List.mem_cons.mp hb with rfl | hb
      · rw [fe.1] at q; cases q
      · rw [List.mem_singleton.mp hb, fi.1] at q; cases q
    have up : ∀ b, b < s.heap.objs.size → b ≠ s.heap.objs.size := fun b hb => Nat.ne_of_lt hb
    have I2 : Inv X pins σ (upd H s.heap.objs.size (.tup [.int i, x])) { s with heap := h2, toks := s.toks + 1 } := by
      refine I.step (g' := s.gens) (d' := s.drawn) (t' := s.toks + 1) (ch := [e, it]) (fun b hb => ?_) (fun b o _ _ hc q _ => k2 b o hc q) (fun b o _ _ hc q _ => ⟨o.slots, k2 b o hc q⟩)
        (fun b o _ q n => by rw [upd_ne (up b (Heap.lt_size q))]; exact n) (fun b o hc q => ⟨o, k2 b o hc q⟩) (fun b ys q => by rw [upd_ne (ne_of_none q hp)]; exact q) (fun b o v q => by rw [upd_ne (ne_of_none q hp)]; exact q)
        (fun b ps q => ⟨#[], by rw [upd_ne (ne_of_none q hp), q]; simp⟩) (fun m hm => ?_) (fun b v q => ?_) I.bare
      · rcases List.mem_cons.mp hb with rfl | hb
        · exact ⟨fe.2.2.2.1, fe.2.1, fe.2.2.2.2.1, fe.2.2.2.2.2⟩
        · rw [List.mem_singleton.mp hb]; exact ⟨fi.2.2.2.1, fi.2.1, fi.2.2.2.2.1, fi.2.2.2.2.2⟩
      · obtain ⟨o, es, ep, q, r⟩ := hm
        refine ⟨o, es, ep, k2 _ o (fun z => ?_) q, r⟩
        rcases List.mem_cons.mp z with z | z
        · exact fe.2.1 z.symm
        · exact fi.2.1 (List.mem_singleton.mp z).symm
      · by_cases hb : b = s.heap.objs.size
        · subst hb
          rw [upd_same] at q; cases q
          exact ⟨by show 2 ≤ sizeLine; decide, [.int i s.toks, u], .cons ⟨_, rfl⟩ (.cons ru .nil), ⟨_, hT2, rfl, _, rfl⟩⟩
        · rw [upd_ne hb] at q
          refine (I.hok b v q).stay (fun c o hc r => k2 c o ?_ r) (fun c r => by rw [upd_ne (ne_of_none r hp)]; exact r) fun c ys r => by rw [upd_ne (ne_of_none r hp)]; exact r
          rcases hc with z | z
          · rw [z]; exact nch b v q
          · exact nch c _ z
    refine ⟨.ref s.heap.objs.size, _, I2, rfl, ⟨_, x, hp, rfl, rfl, fun ys hy => by rw [I.list_inj hy hq]; exact hx⟩, ⟨⟨_, by simpa using he2⟩, hit1.at fun o q => (hs2.2 it (Ne.symm hne)).trans q⟩, fun b hb => ?_⟩
    have lb : b < s.heap.objs.size := by
      rcases List.mem_cons.mp hb with rfl | hb
      · exact Heap.lt_size he
      · rw [List.mem_singleton.mp hb]; obtain ⟨_, q, _⟩ := hit; exact Heap.lt_size q
    rw [upd_ne (up b lb)]
    exact (hf b hb).1
  done := by
    intro X hP hw hK hc i pins s σ H E I hf st hg
    subst hP hw hK
    obtain ⟨xs, hq, hx⟩ := hg
    obtain ⟨its, rv, pl, hz⟩ := I.list hq
    obtain ⟨⟨old, he⟩, hit⟩ := st
    obtain ⟨f0, f1, f2, f3, f4, f5⟩ := hf it (by simp)
    have hl := rv.length
    exact wpAny_pyNext_enum_end (I.ok.hd hc) he hit pl.isList (by simp; omega) fun h' eb => ⟨rfl, I.turned (t' := s.toks) (fun b o hb q => eb b o hb q) f0 f1 f3 f4 f5⟩
  self := fun _ _ _ _ _ st h => by
    obtain ⟨⟨old, he⟩, _⟩ := st
    exact wpAny_pyIter_enum he h
section
variable {X : Cx}
def iEnum (K : PySem.W.Frag) (ta : TA) : TI := fun σ H R => ta σ H fun vs H1 => ∃ a xs, vs = [.ref a] ∧ SqL K H1 a xs ∧ R (Ite K a) H1
theorem pi_enum {elts : List Expr} {tk : Nat} {tpos : Pos} {a : Expr} {ta : TA} {p pos : Pos} (hg : Gl X "enumerate") (hm : X.mg "enumerate" = none) (ha : PA X [a] ta) (hs : starEach [a] X.env = [(false, eval a X.env)] := by rfl) :
    PI X (.Tuple elts tk tpos) (.Call (.Name "enumerate" p) [a] [] pos) (iEnum X.K ta) := by
  intro pins s σ H R I h
  refine Call_ (ld_blt I hg hm boot_enumerate (PyProof.Rows.callWith_type1 (thn (ha pos pins s σ H _ I h) fun us s1 ⟨vs, H1, I1, r1, q1⟩ => ?_) hs rfl))
  obtain ⟨a, xs, e, hq, q⟩ := q1
  subst e
  cases r1 with
  | cons r rr =>
    cases rr
    cases r
    obtain ⟨its, rv, pl, hz⟩ := I1.list hq
    refine call_enumerate_list pl.isList fun h1 he hit hsz hk => ?_
    have I2 : Inv X pins σ H1 { s1 with heap := h1 } := I1.kept (t' := s1.toks) hk
    refine wpAny_pyIter_enum he ?_
    refine ⟨s1.heap.objs.size + 1, [s1.heap.objs.size + 1, s1.heap.objs.size], _, _, H1, rfl, I2, turn_enum a _ _ (Nat.succ_ne_self _), ⟨⟨_, he⟩, hit⟩, fun b hb => ?_, q⟩
    have hb' : s1.heap.objs.size ≤ b := by
      rcases List.mem_cons.mp hb with rfl | hb
      · exact Nat.le_succ _
      · rw [List.mem_singleton.mp hb]; exact Nat.le_refl _
    exact I1.fpOk hb' (I1.hok.fresh hb')
end
theorem a_ienum {K : PySem.W.Frag} {ta : TA} {σ : St} {H : Hp} {R : It → Hp → Prop} : iEnum K ta σ H R = ta σ H fun vs H1 => ∃ a xs, vs = [.ref a] ∧ SqL K H1 a xs ∧ R (Ite K a) H1 := rfl
theorem for_enum {K : PySem.W.Frag} {a : Addr} {xs : List V} {g : TG} {tb : TS} {D : Ends} {σ : St} {H : Hp} (Pv : Nat → St → Hp → Prop) (h0 : Pv 0 σ H) (hl : ∀ i σ H, i ≤ xs.length → Pv i σ H → SqL K H a xs)
    (hs : ∀ i v p σ H, xs[i]? = some v → Pv i σ H → H p = none → g (.ref p) σ (upd H p (.tup [.int i, v])) fun σ2 H2 => tb { D with nx := Pv (i + 1), ct := Pv (i + 1), bk := D.nx } σ2 H2) (hd : ∀ σ H, Pv xs.length σ H → D.nx σ H) : Loop (Ite K a) g tb D σ H := by
  refine ⟨fun i m σ H => m = xs.length - i ∧ i ≤ xs.length ∧ Pv i σ H, ⟨xs.length, by simp, Nat.zero_le _, h0⟩, ?_⟩
  rintro i m σ H ⟨rfl, hi, p⟩
  have q := hl i σ H hi p
  by_cases hlt : i < xs.length
  · refine .inr ⟨⟨xs, xs[i], q, List.getElem?_eq_getElem hlt⟩, Pv (i + 1), fun σ' H' p' => ⟨xs.length - (i + 1), by omega, rfl, hlt, p'⟩, fun x H' y => ?_⟩
    obtain ⟨pa, z, hn, e1, e2, y⟩ := y
    subst e1 e2
    exact hs i z pa σ H (y xs q) p hn
  · have e : i = xs.length := by omega
    subst e
    exact .inl ⟨⟨xs, q, Nat.le_refl _⟩, hd σ H p⟩
end L2
namespace L2
open PySem PySem.Spec PyProof.Rows
def Itv (K : PySem.W.Frag) (a : Addr) (n : Nat) : It :=
  ⟨fun i H => i < n ∧ ∃ xs, SqL K H a xs ∧ xs.length = n, fun i H x H' => H' = H ∧ ∀ xs, SqL K H a xs → xs[n - 1 - i]? = some x, fun i _ => i = n⟩
theorem turn_rev {P : Program} {w : World} {K : PySem.W.Frag} {tg : Expr} (a it : Addr) (n : Nat) : Turn P w K tg (Itv K a n) [it] it (fun i h => h.IsRevIter it a ((n : Int) - 1 - i)) where
  mem := by simp
  obj := fun i h st b hb => by
    have e : b = it := by simpa using hb
    subst e
    obtain ⟨o, e, c, d⟩ := st
    exact ⟨o, e, fun v z => by rw [d] at z; cases z⟩
  keep := fun i h h' st k => st.at fun o e => k it (by simp) o e
  item := by
    intro X hP hw hK hc i pins s σ H E I hf st hg
    subst hP hw hK
    obtain ⟨hi, xs, hq, hn⟩ := hg
    obtain ⟨its, rv, p, hz⟩ := I.list hq
    have hx : xs[n - 1 - i]? = some (xs[n - 1 - i]'(by omega)) := List.getElem?_eq_getElem (by omega)
    obtain ⟨u, hu, ru⟩ := rv.get hx
    obtain ⟨f0, f1, f2, f3, f4, f5⟩ := hf it (by simp)
    have e0 : (n : Int) - 1 - i = ((n - 1 - i : Nat) : Int) := by omega
    rw [e0] at st
    refine wpAny_pyNext_rev_item st p.isList (x := u) (by simpa using hu) fun h' st' sb => ?_
    have I1 : Inv X pins σ H { s with heap := h' } := I.turned (t' := s.toks) (fun b o hb e => (sb.2 b hb).trans e) f0 f1 f3 f4 f5
    have e1 : ((n - 1 - i : Nat) : Int) - 1 = (n : Int) - 1 - ((i + 1 : Nat) : Int) := by omega
    rw [e1] at st'
    obtain ⟨o, e, c, d⟩ := id st'
    exact ⟨u, rfl, go_of (s := { s with heap := h' }) e c d (by decide) ⟨_, H, I1, ru, ⟨rfl, fun ys hy => by rw [I.list_inj hy hq]; exact hx⟩, st', fun b hb => (hf b hb).1⟩⟩
  done := by
    intro X hP hw hK hc i pins s σ H E I hf st hg
    subst hP hw hK
    obtain ⟨f0, f1, f2, f3, f4, f5⟩ := hf it (by simp)
    have e0 : (n : Int) - 1 - i = -1 := by have : i = n := hg; omega
    rw [e0] at st
    exact wpAny_pyNext_rev_end (I.ok.hd hc) st fun h' eb => ⟨rfl, I.turned (t' := s.toks) (fun b o hb e => eb b o hb e) f0 f1 f3 f4 f5⟩
  self := fun _ _ _ _ _ st h => wpAny_pyIter_revIter st h
section
variable {X : Cx} {tg : Expr}
def iRev (K : PySem.W.Frag) (ta : TA) : TI := fun σ H R => ta σ H fun vs H1 => ∃ a xs, vs = [.ref a] ∧ SqL K H1 a xs ∧ R (Itv K a xs.length) H1
theorem pi_rev {a : Expr} {ta : TA} {p pos : Pos} (hg : Gl X "reversed") (hm : X.mg "reversed" = none) (ha : PA X [a] ta) (hs : starEach [a] X.env = [(false, eval a X.env)] := by rfl) :
    PI X tg (.Call (.Name "reversed" p) [a] [] pos) (iRev X.K ta) := by
  intro pins s σ H R I h
  refine Call_ (ld_blt I hg hm boot_reversed (PyProof.Rows.callWith_type1 (thn (ha pos pins s σ H _ I h) fun us s1 ⟨vs, H1, I1, r1, q1⟩ => ?_) hs rfl))
  obtain ⟨a, xs, e, hq, q⟩ := q1
  subst e
  cases r1 with
  | cons r rr =>
    cases rr
    cases r
    obtain ⟨its, rv, pl, hz⟩ := I1.list hq
    have hl := rv.length
    refine call_reversed_list pl.isList ?_
    have I2 : Inv X pins σ H1 { s1 with heap := s1.heap.push (revObj a ((its.toArray.size : Int) - 1)) } := I1.kept (t' := s1.toks) fun b o e => Heap.get?_push_of_some _ e
    have st : (s1.heap.push (revObj a ((its.toArray.size : Int) - 1))).IsRevIter s1.heap.objs.size a ((xs.length : Int) - 1 - ((0 : Nat) : Int)) := by
      have e1 : (xs.length : Int) - 1 - ((0 : Nat) : Int) = (its.toArray.size : Int) - 1 := by rw [List.size_toArray, hl]; simp
      rw [e1]
      exact ⟨_, Heap.get?_push_size _ rfl, rfl, rfl⟩
    refine wpAny_pyIter_revIter st ?_
    refine ⟨s1.heap.objs.size, [s1.heap.objs.size], _, _, H1, rfl, I2, turn_rev a _ xs.length, st, fun b hb => ?_, q⟩
    have e : b = s1.heap.objs.size := by simpa using hb
    subst e
    exact I1.fpOk (Nat.le_refl _) (I1.hok.fresh (Nat.le_refl _))
end
theorem a_irev {K : PySem.W.Frag} {ta : TA} {σ : St} {H : Hp} {R : It → Hp → Prop} : iRev K ta σ H R = ta σ H fun vs H1 => ∃ a xs, vs = [.ref a] ∧ SqL K H1 a xs ∧ R (Itv K a xs.length) H1 := rfl
theorem lp_rev {K : PySem.W.Frag} {a : Addr} {xs : List V} {g : TG} {tb : TS} {D : Ends} {σ : St} {H : Hp} (Pv : Nat → St → Hp → Prop) (h0 : Pv 0 σ H) (hl : ∀ i σ H, i ≤ xs.length → Pv i σ H → SqL K H a xs)
    (hs : ∀ i v σ H, i < xs.length → xs[xs.length - 1 - i]? = some v → Pv i σ H → g v σ H fun σ2 H2 => tb { D with nx := Pv (i + 1), ct := Pv (i + 1), bk := D.nx } σ2 H2) (hd : ∀ σ H, Pv xs.length σ H → D.nx σ H) : Loop (Itv K a xs.length) g tb D σ H := by
  refine ⟨fun i m σ H => m = xs.length - i ∧ i ≤ xs.length ∧ Pv i σ H, ⟨xs.length, by simp, Nat.zero_le _, h0⟩, ?_⟩
  rintro i m σ H ⟨rfl, hi, p⟩
  have q := hl i σ H hi p
  by_cases hlt : i < xs.length
  · refine .inr ⟨⟨hlt, xs, q, rfl⟩, Pv (i + 1), fun σ' H' p' => ⟨xs.length - (i + 1), by omega, rfl, hlt, p'⟩, fun x H' y => ?_⟩
    obtain ⟨e, y⟩ := y
    subst e
    exact hs i x σ _ hlt (y xs q) p
  · have e : i = xs.length := by omega
    subst e
    exact .inl ⟨rfl, hd σ H p⟩
section
variable {σ : St} {H : Hp} {Q : VK} {x y v : V} {vs : List V}
theorem a_cat : rCat x y H Q = ∃ l b xs zs, x = .ref l ∧ y = .ref b ∧ H l = some (.lst xs) ∧ H b = some (.lst zs) ∧ xs.length + zs.length ≤ sizeLine ∧ ∀ p, H p = none → Q (.ref p) (upd H p (.lst (xs ++ zs))) := rfl
theorem a_rep : rRep x y H Q = ∃ l k xs, x = .ref l ∧ y = .int k ∧ H l = some (.lst xs) ∧ -(2 ^ 63) ≤ k ∧ k < 2 ^ 63 ∧ xs.length * k.toNat ≤ sizeLine ∧ ∀ p, H p = none → Q (.ref p) (upd H p (.lst (List.replicate k.toNat xs).flatten)) := rfl
theorem a_pop : rPop x vs H Q = ∃ l xs y, x = .ref l ∧ vs = [] ∧ H l = some (.lst xs) ∧ xs[xs.length - 1]? = some y ∧ Q y (upd H l (.lst xs.dropLast)) := rfl
theorem a_clear : rClear x vs H Q = ∃ l xs, x = .ref l ∧ vs = [] ∧ H l = some (.lst xs) ∧ Q .non (upd H l (.lst [])) := rfl
end
end L2
namespace L2
open PySem PySem.Spec PyProof.Rows
theorem op_mulZ {X : Cx} : OpR X (binaryOp .Mult) (rI IntMulOk fun i j => .int (i * j)) := opI fun _ _ _ _ _ _ _ hc q => mul_int q hc
def Bd (k : Nat) (x : Int) : Prop := x.natAbs < 2 ^ k
theorem Bd.mono {k l : Nat} {x : Int} (h : Bd k x) (hl : k ≤ l) : Bd l x := Nat.lt_of_lt_of_le h (Nat.pow_le_pow_right (by decide) hl)
theorem Bd.zero (k : Nat) : Bd k 0 := Nat.two_pow_pos k
theorem Bd.one {k : Nat} (h : 0 < k) : Bd k 1 := by
  have : Bd 1 1 := by show (1 : Nat) < 2 ^ 1; decide
  exact this.mono h
theorem Bd.neg {k : Nat} {x : Int} (h : Bd k x) : Bd k (-x) := by unfold Bd; rw [Int.natAbs_neg]; exact h
theorem Bd.mul {k l : Nat} {x y : Int} (h : Bd k x) (g : Bd l y) : Bd (k + l) (x * y) := by
  unfold Bd at *
  rw [Int.natAbs_mul, Nat.pow_add]
  exact Nat.mul_lt_mul_of_lt_of_lt h g
theorem Bd.add {k : Nat} {x y : Int} (h : Bd k x) (g : Bd k y) : Bd (k + 1) (x + y) := by
  unfold Bd at *
  rw [Nat.pow_succ]
  have := Int.natAbs_add_le x y
  omega
theorem Bd.fits {k l : Nat} {x y : Int} (h : Bd k x) (g : Bd l y) (hz : k + l ≤ 134217728) : IntMulOk x y := mulOk_of h g hz
theorem Bd.of_lt {k : Nat} {x : Int} {m : Nat} (h : x.natAbs < m) (hm : m ≤ 2 ^ k) : Bd k x := Nat.lt_of_lt_of_le h hm
def newL (H : Hp) (Q : VK) (ys : List V) : Prop := ∀ r H', Same H H' → H r = none → H' r = some (.lst ys) → Q (.ref r) H'
theorem same_upd {H : Hp} {p : Addr} (h : H p = none) (o : HO) : Same H (upd H p o) := fun b u q => by rw [upd_ne (ne_of_none q h)]; exact q
theorem Same.seqT {K : PySem.W.Frag} {H H' : Hp} {a : Addr} {xs : List V} (e : Same H H') (h : SqT K H a xs) : SqT K H' a xs := by
  rcases h with (h | ⟨o, h⟩) | h
  · exact .inl (.inl (e _ _ h))
  · exact .inl (.inr ⟨o, e _ _ h⟩)
  · exact .inr h
theorem at_int {xs : List Int} {i : Nat} (h : i < xs.length) : atI (xs.map V.int) (i : Int) = some (V.int xs[i]) := atI_nat (by rw [List.getElem?_map, List.getElem?_eq_getElem h]; rfl)
theorem ixN_nat {n i : Nat} (h : i < n) : ixN n (i : Int) = some i := by
  unfold ixN
  rw [if_pos (by omega), if_pos (by omega)]; simp
theorem ixN_neg {n i : Nat} (h : 0 < i) (h2 : i ≤ n) : ixN n (-(i : Int)) = some (n - i) := by
  unfold ixN
  rw [if_neg (by omega), if_pos (by omega)]
  congr 1
  omega
theorem at_last {xs : List Int} (h : xs ≠ []) : atI (xs.map V.int) (-1) = some (V.int (xs.getLast h)) := by
  unfold atI
  have h0 : 0 < xs.length := by cases xs with | nil => exact absurd rfl h | cons _ _ => simp
  have e := ixN_neg (n := (xs.map V.int).length) (i := 1) (by decide) (by rw [List.length_map]; exact h0)
  have e1 : (-((1 : Nat) : Int)) = -1 := rfl
  rw [e1] at e
  rw [e]
  show (xs.map V.int)[(xs.map V.int).length - 1]? = _
  rw [List.getElem?_map, List.length_map, ← List.getLast?_eq_getElem?, List.getLast?_eq_some_getLast h]; rfl
theorem map_set (xs : List Int) (i : Nat) (v : Int) : (xs.map V.int).set i (V.int v) = (xs.set i v).map V.int := by rw [List.map_set]
theorem small_down {i j : Int} (h1 : -(2 ^ 60) < i) (h2 : i < 2 ^ 60) (h3 : -(2 ^ 60) < j) (h4 : j < 2 ^ 60) : Builtin.Range.small i j (-1) = true := by
  unfold Builtin.Range.small
  simp only [Builtin.Range.rangeFitsLong, Builtin.Range.rangeSize, Bool.and_eq_true, Bool.or_eq_true, decide_eq_true_eq, beq_iff_eq, show ¬ (-1 : Int) > 0 by decide, if_false, Int.neg_neg, Int.ediv_one]
  split <;> omega
theorem size_down {i j : Int} {n : Nat} (h : (i - j).toNat = n) : Builtin.Range.rangeSize i j (-1) = n := by
  unfold Builtin.Range.rangeSize
  simp only [show ¬ (-1 : Int) > 0 by decide, if_false, Int.neg_neg, Int.ediv_one]
  split <;> omega
theorem at_some {xs : List Int} {i : Nat} {v : Int} (h : xs[i]? = some v) : atI (xs.map V.int) (i : Int) = some (V.int v) := atI_nat (by rw [List.getElem?_map, h]; rfl)
theorem Same.more {H H' : Hp} {p : Addr} {o : HO} (e : Same H H') (h : H p = none) : Same H (L2.upd H' p o) := fun b u q => by rw [upd_ne (ne_of_none q h)]; exact e b u q
end L2
namespace L2
open PySem PySem.Spec PyProof.Rows
structure Grd (P : Program) (w : World) (fs : List Addr) (H H' : Hp) (h B : Heap) : Prop where
  keep : ∀ b o, h.get? b = some o → H b = none → b ∉ fs → B.get? b = some o
  there : ∀ b o, h.get? b = some o → b ∉ fs → ∃ o', B.get? b = some o'
  free : ∀ b o, h.get? b = some o → H b = none → H' b = none
  tups : ∀ b xs, H b = some (.tup xs) → H' b = some (.tup xs)
  frzs : ∀ b o u, H b = some (.frz o u) → H' b = some (.frz o u)
  tbls : ∀ b ps, H b = some (.tbl ps) → ∃ more, H' b = some (.tbl (ps ++ more))
  hok : HOk P w H' B
def Slt (fs : List Addr) (h h' : Heap) : Prop := ∀ b o, h.get? b = some o → b ∈ fs → ∃ sl, h'.get? b = some { o with slots := sl }
def CXE (P : Program) (w : World) : CXT := fun outer H s E e s' => ∃ (a t C : Addr) (H' : Hp) (B : Heap), e = .ref a ∧ s'.os = s.os ∧ AllBare s'.gens ∧ Heap.FlyingW B outer a (.ref C) (.ref t) s'.heap ∧
  Grd P w (frs outer) H H' s.heap B ∧ Slt (frs outer) s.heap s'.heap ∧ E (.ref C) none H'
theorem passF {P : Program} {w : World} {X : Cx} : Passes (CXE P w) X E0 := fun _ _ _ _ _ _ _ h => by
  obtain ⟨_, _, _, _, _, _, _, _, _, _, _, q⟩ := h
  exact q.elim
section
variable {X : Cx} {pins : List (Addr × Obj)} {σ : St} {H H' : Hp} {s : Shared}
theorem HOk.hide {P : Program} {w : World} {h : Heap} {fs : List Addr} (x : HOk P w H h) (hf : ∀ b ∈ fs, H b = none) : HOk P w H (PySem.W.hideAll h fs) := fun a o e =>
  (x a o e).stay (fun b u hb q => PySem.W.hideAll_get _ q fun z => by
    have n := hf b z
    rcases hb with hb | hb
    · rw [hb, e] at n; cases n
    · rw [hb] at n; cases n) (fun _ q => q) fun _ _ q => q
end
section
variable {P : Program} {w : World} {K : PySem.W.Frag} {mg : Str → Option Value} {base : Heap} {N : List Str} {qual : Str} {scope : Scope} {f : Addr} {cd : Value} {A : Around} {outer : List Env} {s0 : Shared} {H0 : Hp} {E : XK}
theorem nofr0 {pins : List (Addr × Obj)} {σ : St} {H : Hp} {s : Shared} (I : Inv (cxOf (CXE P w) P w K mg base N qual scope f cd A outer s0 H0 E) pins σ H s) {b : Addr} {o : Obj} (q : s0.heap.get? b = some o) (hb : b ∉ frs outer) :
    b ∉ frs (envOfC qual scope s0.heap.objs.size f cd :: outer) := fun z => by
  rcases List.mem_cons.mp (I.stkSub b z) with e | e
  · exact absurd (Heap.lt_size q) (by rw [e]; exact Nat.not_lt.mpr I.ok.above)
  · exact hb e
theorem throw_here {pins : List (Addr × Obj)} {σ : St} {H : Hp} {s : Shared} {h' : Heap} {a C : Addr} {args : List Value} (I : Inv (cxOf (CXE P w) P w K mg base N qual scope f cd A outer s0 H0 E) pins σ H s)
    (hx : Heap.MadeExcOf s.heap h' a (.ref C) args) (q : E (.ref C) none H) : (cxOf (CXE P w) P w K mg base N qual scope f cd A outer s0 H0 E).xe (.ref a) { s with heap := h' } := by
  have hfs : ∀ b ∈ frs (envOfC qual scope s0.heap.objs.size f cd :: outer), H b = none := I.stkFree
  have hin : ∀ env ∈ (envOfC qual scope s0.heap.objs.size f cd :: outer), ∀ b, env.frame = some b → b ∈ frs (envOfC qual scope s0.heap.objs.size f cd :: outer) := fun env he b hb => List.mem_filterMap.mpr ⟨env, he, hb⟩
  have hst : s.heap.FunFrames base (envOfC qual scope s0.heap.objs.size f cd :: outer) := I.stack
  have noE : ∀ b : Addr, b ∉ (cxOf (CXE P w) P w K mg base N qual scope f cd A outer s0 H0 E).ex := fun b z => absurd (show b ∈ ([] : List Addr) from z) (by simp)
  refine wpAny_leaves_madeW (base := PySem.W.hideAll s.heap (frs (envOfC qual scope s0.heap.objs.size f cd :: outer))) I.ok.frames rfl (fun b o z => PySem.W.of_hideAll _ z) (PySem.W.funFrames_hide hst hin) hx fun h2 t fl _ _ up => ?_
  refine ⟨a, t, C, H, _, rfl, I.os, I.bare, fl, ⟨fun b o e n hb => ?_, fun b o e hb => ?_, fun b o e n => I.base.free b o e n (noE b), I.base.tups, I.base.frzs, I.base.tbls, I.hok.hide hfs⟩, fun b o e hb => ?_, q⟩
  · exact PySem.W.hideAll_get _ (I.base.keep b o e n hb (noE b)) (nofr0 I e hb)
  · obtain ⟨o', e'⟩ := I.base.there b o e (noE b)
    exact ⟨o', PySem.W.hideAll_get _ e' (nofr0 I e hb)⟩
  · obtain ⟨_, o', ho', hd⟩ := I.ok.funs.mem hb
    rw [show (cxOf (CXE P w) P w K mg base N qual scope f cd A outer s0 H0 E).s₀.heap.get? b = some o from e] at ho'; cases ho'
    obtain ⟨sl, e1⟩ := I.base.slot b o e (I.ok.frf b hb) hb (noE b)
    obtain ⟨sl', e2⟩ := up b _ (hx.keeps _ _ e1) hd
    exact ⟨sl', e2⟩
theorem passE : Passes (CXE P w) (cxOf (CXE P w) P w K mg base N qual scope f cd A outer s0 H0 E) E := fun pins σ H s e s' I c => by
  obtain ⟨a, t, C, H', B, rfl, os, bare, fl, G, sl, q⟩ := c
  have noE : ∀ b : Addr, b ∉ (cxOf (CXE P w) P w K mg base N qual scope f cd A outer s0 H0 E).ex := fun b z => absurd (show b ∈ ([] : List Addr) from z) (by simp)
  refine wpAny_leaves_onW I.ok.frames rfl fl fun h2 fl2 up => ?_
  refine ⟨a, t, C, H', B, rfl, os.trans I.os, bare, fl2, ⟨fun b o e n hb => ?_, fun b o e hb => ?_, fun b o e n => ?_, fun b xs z => G.tups b xs (I.base.tups b xs z), fun b o u z => G.frzs b o u (I.base.frzs b o u z), fun b ps z => ?_, G.hok⟩, fun b o e hb => ?_, q⟩
  · exact G.keep b o (I.base.keep b o e n hb (noE b)) (I.base.free b o e n (noE b)) (nofr0 I e hb)
  · obtain ⟨o', e'⟩ := I.base.there b o e (noE b)
    exact G.there b o' e' (nofr0 I e hb)
  · obtain ⟨o', e'⟩ := I.base.there b o e (noE b)
    exact G.free b o' e' (I.base.free b o e n (noE b))
  · obtain ⟨m1, e1⟩ := I.base.tbls b ps z
    obtain ⟨m2, e2⟩ := G.tbls b _ e1
    exact ⟨m1 ++ m2, by rw [e2, Array.append_assoc]⟩
  · obtain ⟨_, o', ho', hd⟩ := I.ok.funs.mem hb
    rw [show (cxOf (CXE P w) P w K mg base N qual scope f cd A outer s0 H0 E).s₀.heap.get? b = some o from e] at ho'; cases ho'
    obtain ⟨_, e1⟩ := I.base.slot b o e (I.ok.frf b hb) hb (noE b)
    obtain ⟨_, e2⟩ := sl b _ e1 (by show b ∈ frs (envOfC qual scope s0.heap.objs.size f cd :: outer); exact List.mem_cons_of_mem _ hb)
    obtain ⟨sl', e3⟩ := up b _ e2 hd
    exact ⟨sl', e3⟩
theorem Fun.okE {x : Str} {st : Stmt} {fd : FuncData} {ps : List Str} {k : Nat} {sp : Sp} (F : Fun K x qual st f fd) (S : FnScope N ps (defScope st)) (len : ∀ vs H Q E, sp vs H Q E → vs.length = ps.length)
    (hbody : ∀ (cdv : Value) (A : Around) (outer : List Env) (s : Shared) (H : Hp) (vs : List V) (Q : VK) (E : XK), Room k (A.deeper (envOfC qual (defScope st) s.heap.objs.size f cdv)) → sp vs H Q E →
      ∃ t, PSs (cxOf (CXE P w) P w K mg base N qual (defScope st) f cdv A outer s H E) (defBody st) t ∧ t { nx := fun _ H' => Q .non H', rt := Q } (start N vs) H) : FnOk P w K mg base (CXE P w) (k + 1) f fd ps sp := by
  obtain ⟨oc, od, kV, doc, pm, an, cdv, ct, osl, rfl, lk, hcd⟩ := F.ex
  exact fn_of lk hcd S len fun A outer s H vs Q E hr hsp => hbody cdv A outer s H vs Q E hr hsp
end
theorem PS.nox {X : Cx} {st : Stmt} {t : TS} (h : PS X.nox st t) : PS X st t := fun pins s σ H D I hw =>
  wpAny_mono (h pins s σ H D (I.wish _) hw) (fun _ _ q => q.unwish) fun _ _ z => False.elim z
abbrev bmV : List Value := [.type "ValueError", .type "Exception", .type "BaseException", .type "object"]
theorem exc_obj {K : PySem.W.Frag} {C : Addr} (q : PySem.W.excIn K C bmV "ValueError.__new__" = true) : ∃ bm N nm qn bs hd sn sub ab col dd k0 k1 k2 k3 k5,
    K.lookup C = some (excClassObj nm qn C N bs bm hd sn sub ab col dd k0 k1 k2 k3 k5 "ValueError.__new__") ∧ PySem.W.tailIn K bmV bm = true ∧ PySem.W.nsOkIn K N = true ∧ PySem.W.nsIn K N "__init__" = some none := by
  unfold PySem.W.excIn at q
  split at q
  · rename_i dd cd sl ho
    split at q
    · rename_i C1 bm k0 k1 k2 k3 n k5 hm hs
      rw [Bool.and_eq_true, Bool.and_eq_true, Bool.and_eq_true, Bool.and_eq_true, Bool.and_eq_true] at q
      obtain ⟨⟨⟨⟨⟨q1, q2⟩, q3⟩, q4⟩, q5⟩, q6⟩ := q
      have r1 := beq_iff_eq.mp q1
      have r2 := beq_iff_eq.mp q2
      have r6 := beq_iff_eq.mp q6
      subst r1 r2
      obtain ⟨nm, bs, mro, ns, qn, hd, sn, sub, ab, col, del⟩ := cd
      simp only at hm q3 q5 r6
      have q3' : del = false := by cases del <;> simp at q3 ⊢
      subst hm q3'
      obtain ⟨l⟩ := sl
      simp only at hs
      subst hs
      exact ⟨bm, ns, nm, qn, bs, hd, sn, sub, ab, col, dd, k0, k1, k2, k3, k5, ho, q4, q5, r6⟩
    · cases q
  · cases q
def Throws (X : Cx) (E : XK) : Prop := ∀ (pins : List (Addr × Obj)) (σ : St) (H : Hp) (s : Shared) (h' : Heap) (a C : Addr) (args : List Value), Inv X pins σ H s → Heap.MadeExcOf s.heap h' a (.ref C) args → E (.ref C) none H → X.xe (.ref a) { s with heap := h' }
theorem throwE {P : Program} {w : World} {K : PySem.W.Frag} {mg : Str → Option Value} {base : Heap} {N : List Str} {qual : Str} {scope : Scope} {f : Addr} {cd : Value} {A : Around} {outer : List Env} {s0 : Shared} {H0 : Hp} {E : XK} :
    Throws (cxOf (CXE P w) P w K mg base N qual scope f cd A outer s0 H0 E) E := fun _ _ _ _ _ _ _ _ I hx q => throw_here I hx q
def tRaise (C : Addr) (ta : TA) (E : XK) : TS := fun _ σ H => ta σ H fun vs H1 => vs.length ≤ sizeLine ∧ E (.ref C) none H1
theorem a_raise {C : Addr} {ta : TA} {E : XK} {D : Ends} {σ : St} {H : Hp} : tRaise C ta E D σ H = ta σ H fun vs H1 => vs.length ≤ sizeLine ∧ E (.ref C) none H1 := rfl
theorem ps_raise {X : Cx} {E : XK} {x : Str} {C : Addr} {e0 : Expr} {ta : TA} {np cpos pos : Pos} (hc : X.calm = true) (hr : Throws X E) (hg : Gl X x) (hm : X.mg x = some (.ref C)) (hx : PySem.W.excIn X.K C bmV "ValueError.__new__" = true) (ha : PA X [e0] ta)
    (he : starEach [e0] X.env = [(false, eval e0 X.env)] := by rfl) (hpl : (backTo cpos (starEach [e0] X.env)).any (·.1) = false := by rfl) (hd : (x == ("__debug__" : Str)) = false := by decide) :
    PS X (.Raise (some (.Call (.Name x np) [e0] [] cpos)) none pos) (tRaise C ta E) := by
  intro pins s σ H D I h
  obtain ⟨bm, N, nm, qn, bs, hdc, sn, sub, ab, col, dd, k0, k1, k2, k3, k5, lk, tl, ok, ni⟩ := exc_obj hx
  have T0 : OwnTail s.heap bmV bm := PySem.W.tail_of_in I.kIn tl
  refine wpAny_Raise_call_subT (C := C) (nm := nm) (q := qn) (N := N) (bs := bs) (bm := bm) (hdct := hdc) (sn := sn) (sub := sub) (ab := ab) (col := col) (dd := dd) (k0 := k0) (k1 := k1) (k2 := k2) (k3 := k3) (k5 := k5)
    PySem.F.excBase_ValueError (mN := s.heap.nsMap N) (T0.hasType PySem.F.excBase_ValueError.hasBase) (I.ok.hd hc) hpl (PySem.W.nsMap_none_of_in I.kIn ok ni) (ld_glob I hg hm ⟨rfl, ?_⟩ hd)
  have ns0 : s.heap.Ns N (s.heap.nsMap N) := .of_isNs (PySem.W.isNs_of_in I.kIn ok)
  have h2 := ha cpos pins s σ H _ I h
  rw [he] at h2 ⊢
  refine Calls.evalArgs_plain (wpAny_mono h2 (fun vs s2 z => ?_) fun _ _ y => y)
  obtain ⟨xs, H1, I1, r1, q1, q2⟩ := z
  have eN : s.heap.nsMap N = s2.heap.nsMap N := by
    obtain ⟨o, es, ep, ho, hdt, _⟩ := id ns0
    unfold PySem.W.nsOkIn at ok
    split at ok
    · rename_i z
      unfold Heap.nsMap
      rw [I.kIn _ _ z, I1.kIn _ _ z]
    · cases ok
  refine ⟨rfl, by rw [← r1.length]; exact q1, I1.kIn _ _ lk, ?_, PySem.W.tail_of_in I1.kIn tl, fun h' a hm' => hr pins σ H1 s2 h' a C vs I1 hm' q2⟩
  rw [eN]; exact .of_isNs (PySem.W.isNs_of_in I1.kIn ok)
end L2
namespace L2
open PySem PySem.Spec PyProof.Rows
def IsExc (a C : Addr) : HO := .ext fun h => ∃ oe vs, h.get? a = some oe ∧ oe.cls = .ref C ∧ oe.data = .fields vs
section
variable {X : Cx} {pins : List (Addr × Obj)} {σ : St} {H H' : Hp} {s : Shared} {a : Addr}
end
structure Catches (K : PySem.W.Frag) (C D : Addr) : Prop where
  c : PySem.W.excIn K C bmV "ValueError.__new__" = true
  d : PySem.W.excIn K D bmV "ValueError.__new__" = true
  base : PySem.W.mroIn K D (.type "BaseException") = some true
  sub : PySem.W.mroIn K C (.ref D) = some true
section
variable {X : Cx} {pins : List (Addr × Obj)} {σ : St} {H H' : Hp} {s s2 : Shared} {a t C : Addr} {B : Heap}
end
section
variable {X : Cx} {k : Nat} {f : Addr} {fd : FuncData} {ps : List Str} {sp : Sp} {x : Str} {p pos : Pos} {e : Expr} {es : List Expr} {t : TA}
end
def tTry (K : PySem.W.Frag) (Dc : Addr) (t : XK → TS) (th : TS) : TS := fun D σ H => t (fun c _ H1 => ∃ C, c = .ref C ∧ Catches K C Dc ∧ ∀ a, H1 a = none → th D σ (upd H1 a (IsExc a C))) D σ H
theorem a_try {K : PySem.W.Frag} {Dc : Addr} {t : XK → TS} {th : TS} {D : Ends} {σ : St} {H : Hp} : tTry K Dc t th D σ H = t (fun c _ H1 => ∃ C, c = .ref C ∧ Catches K C Dc ∧ ∀ a, H1 a = none → th D σ (upd H1 a (IsExc a C))) D σ H := rfl
section
variable {X : Cx} {st b0 : Stmt} {suite : List Stmt} {t : XK → TS} {th : TS} {x n : Str} {Dc : Addr} {np hpos pos : Pos}
end
def Ends.drop (D : Ends) (i : Nat) : Ends := { nx := fun σ H => D.nx (σ.set i none) H, rt := D.rt, bk := fun σ H => D.bk (σ.set i none) H, ct := fun σ H => D.ct (σ.set i none) H }
def tTryAs (K : PySem.W.Frag) (Dc : Addr) (i : Nat) (t : XK → TS) (th : TS) : TS := fun D σ H => t (fun c _ H1 => ∃ C, c = .ref C ∧ Catches K C Dc ∧ ∀ a, H1 a = none → th (D.drop i) (σ.set i (some (.ref a))) (upd H1 a (IsExc a C))) D σ H
theorem a_tryAs {K : PySem.W.Frag} {Dc : Addr} {i : Nat} {t : XK → TS} {th : TS} {D : Ends} {σ : St} {H : Hp} : tTryAs K Dc i t th D σ H = t (fun c _ H1 => ∃ C, c = .ref C ∧ Catches K C Dc ∧ ∀ a, H1 a = none → th (D.drop i) (σ.set i (some (.ref a))) (upd H1 a (IsExc a C))) D σ H := rfl
theorem a_drop_nx {D : Ends} {i : Nat} {σ : St} {H : Hp} : (D.drop i).nx σ H = D.nx (σ.set i none) H := rfl
section
variable {X : Cx} {st b0 : Stmt} {suite : List Stmt} {t : XK → TS} {th : TS} {x n : Str} {Dc : Addr} {np hpos pos : Pos} {i : Nat}
end
end L2
namespace L2
open PySem PySem.Spec PySem.W PyProof.Rows Builtin Builtin.ObjectAttr Builtin.Getset_descriptor
section
variable {prog : Program} {w : World} {A : Around} {E : Value → Shared → Prop} {s : Shared} {K : PySem.W.Frag} {x C : Addr}
end
end L2
namespace L2
open PySem PySem.Spec PyProof.Rows
section
variable {X : Cx} {e st : Expr} {te : TE} {lo hi : Option Expr} {tl th ts : TO} {pos p2 : Pos}
end
theorem lp_enum {K : PySem.W.Frag} {a : Addr} {xs : List V} {g : TG} {tb : TS} {D : Ends} {σ : St} {H : Hp} (Pv : Nat → St → Hp → Prop) (h0 : Pv 0 σ H) (hl : ∀ i σ H, i ≤ xs.length → Pv i σ H → SqL K H a xs)
    (hs : ∀ i v p σ H, xs[i]? = some v → Pv i σ H → H p = none → g (.ref p) σ (upd H p (.tup [.int i, v])) fun σ2 H2 => tb { D with nx := Pv (i + 1), ct := Pv (i + 1), bk := D.nx } σ2 H2) (hd : ∀ σ H, Pv xs.length σ H → D.nx σ H) : Loop (Ite K a) g tb D σ H := for_enum Pv h0 hl hs hd
end L2
namespace L2
open PySem PySem.Spec PyProof.Rows
theorem compLoop_if {prog : Program} {w : World} {A : Around} {R : Result → Shared → Prop} {s : Shared} {elt target iter cnd : Expr} {scope : Scope} {pos : Pos} {it acc : Value} {env : Env} (I : Nat → Shared → Prop)
    (turn : ∀ n s (E : Value → Shared → Prop), I n s → wpAny (model prog w) A (pyNext it) (fun r s₁ => match r with
      | none => R (.ok .next) s₁
      | some v => wpAny (model prog w) A (letOwnedTupleGo target it v) (fun _ s₂ => wpAny (model prog w) A (assign target env v) (fun _ s₃ => wpAny (model prog w) A (isTrue cnd env (eval cnd env)) (fun b s₄ => if b = true then wpAny (model prog w) A (eval elt env) (fun x s₅ =>
          wpAny (model prog w) A (call (.builtin "list.append") [acc, x]) (fun _ s₆ => ∃ m, m < n ∧ I m s₆) E s₅) E s₄ else ∃ m, m < n ∧ I m s₄) E s₃) E s₂) E s₁) E s)
    (n : Nat) (h : I n s) :
    codeAny (model prog w) A (.compLoop (.ListComp elt [⟨target, iter, [cnd], 0⟩] scope pos) 0 it acc env) R s := by
  refine codeAny_loop rfl I (fun n s hI => ?_) n h
  show wpAny _ _ ((compTurn (.ListComp elt [⟨target, iter, [cnd], 0⟩] scope pos) 0 it acc env).onRaise (fun x => do noteFrame x env; theTreesLotGoes x)) _ _ s
  refine wpAny_noted ?_
  unfold compTurn
  dsimp only [List.getElem?_cons_zero]
  refine wpAny_bind (wpAny_standAt (wpAny_bind (wpAny_mono (turn n s _ hI) (fun r s₁ h₁ => ?_) fun _ _ h' => h')))
  cases r with
  | none => exact wpAny_pure h₁
  | some v =>
    refine wpAny_bind (thn h₁ fun _ s₂ h₂ => wpAny_bind (thn h₂ fun _ s₃ h₃ => wpAny_bind ?_))
    rw [List.forIn_cons, if_pos rfl]
    refine wpAny_bind (wpAny_bind (thn h₃ fun b s₄ h₄ => wpAny_pure ?_))
    dsimp only
    rw [List.forIn_nil]
    refine wpAny_pure ?_
    cases b with
    | true =>
      rw [if_pos rfl] at h₄ ⊢
      exact wpAny_bind (wpAny_bind (thn h₄ fun x s₅ h₅ => wpAny_bind (thn h₅ fun _ s₆ h₆ => wpAny_pure (wpAny_pure ⟨rfl, h₆⟩))))
    | false =>
      rw [if_neg (by decide)] at h₄ ⊢
      exact wpAny_pure ⟨rfl, h₄⟩
section
variable {X : Cx} {elt iter cnd : Expr} {x : Str} {px : Pos} {fv : List (Nat × Str)} {scope : Scope} {cl : List (Str × Addr)} {pos : Pos} {te : TE} {tt : TT} {wi : TI}
def CLoopIf (J : It) (fv : List (Nat × Str)) (tt : TT) (te : TE) (Q : VK) (σ : St) (H1 : Hp) (D : Addr) : Prop := ∃ W : Nat → Nat → Hp → Prop, (∃ m, W 0 m (upd H1 D (.lst []))) ∧ ∀ i m H, W i m H →
  (J.stop i H ∧ Q (.ref D) H) ∨ (J.go i H ∧ ∃ N : Hp → Prop, (∀ H', N H' → ∃ m', m' < m ∧ W (i + 1) m' H') ∧ ∀ v H', J.yld i H v H' → tt (bst fv σ (some v)) H' fun b Hb => if b = true then te (bst fv σ (some v)) Hb fun y H2 => ∃ ys, H2 D = some (.lst ys) ∧ ys.length < sizeLine ∧ N (upd H2 D (.lst (ys ++ [y]))) else N Hb)
def tCompIf (fv : List (Nat × Str)) (wi : TI) (tt : TT) (te : TE) : TE := fun σ H Q => wi σ H fun J H1 => ∀ D, H1 D = none → CLoopIf J fv tt te Q σ H1 D
theorem blk_runIf {pins : List (Addr × Obj)} {σ : St} {H : Hp} {s2 : Shared} {it : Addr} {fp : List Addr} {tn : Nat → Heap → Prop} {J : It} {Q : VK} {E : Value → Shared → Prop} {RR : Value → Addr → Result → Shared → Prop}
    (hc : X.calm = true) (B : BlkOk X x fv scope cl) (hcn : ∀ C s H fp, PT (blk X x fv scope cl C s H fp) cnd tt) (he : ∀ C s H fp, PE (blk X x fv scope cl C s H fp) elt te) (I : Inv X pins σ H s2) (T : Turn X.prog X.w X.K (.Name x px) J fp it tn) (st : tn 0 s2.heap) (hf : ∀ b ∈ fp, FpOk X pins H b)
    (rd : ∀ D, H D = none → ∃ W : Nat → Nat → Hp → Prop, (∃ m, W 0 m (upd H D (.lst []))) ∧ ∀ i m H, W i m H →
      (J.stop i H ∧ Q (.ref D) H) ∨ (J.go i H ∧ ∃ N : Hp → Prop, (∀ H', N H' → ∃ m', m' < m ∧ W (i + 1) m' H') ∧ ∀ v H', J.yld i H v H' → tt (bst fv σ (some v)) H' fun b Hb => if b = true then te (bst fv σ (some v)) Hb fun y H2 => ∃ ys, H2 D = some (.lst ys) ∧ ys.length < sizeLine ∧ N (upd H2 D (.lst (ys ++ [y]))) else N Hb))
    (hRR : ∀ D C s' H' m', Inv X pins σ H' s' → FpOk X pins H' C → s'.heap.Ns C m' → Q (.ref D) H' → RR (.ref D) C (.ok .next) s') :
    wpAny (model X.prog X.w) X.A (newList []) (fun acc s₃ => wpAny (model X.prog X.w) X.A (newFunctionEnv scope X.env.globals cl [] X.env.qual none .none (some X.env)) (fun cenv s₄ =>
      codeAny (model X.prog X.w) X.A (.compStart (.ListComp elt [⟨.Name x px, iter, [cnd], 0⟩] scope pos) 0 (.ref it) acc { cenv with scope := relabel scope X.env }) (RR acc cenv.locals) s₄) E s₃) E s2 := by
  refine wpAny_newObj_type ?_ (by show 0 ≤ sizeLine; exact Nat.zero_le _)
  have hD : H s2.heap.objs.size = none := I.hok.fresh (Nat.le_refl _)
  have I3 := I.lnew (ys := []) (its := []) (t' := s2.toks) .nil (Nat.zero_le _)
  generalize hs3 : ({ s2 with heap := s2.heap.push { cls := .type "list", data := .seq ([] : List Value).toArray }, toks := s2.toks } : Shared) = s3 at I3
  have sz3 : s3.heap.objs.size = s2.heap.objs.size + 1 := by rw [← hs3]; exact Heap.size_push ..
  have up3 : ∀ b o, s2.heap.get? b = some o → s3.heap.get? b = some o := fun b o e => by rw [← hs3]; exact Heap.get?_push_of_some _ e
  have hf3 : ∀ b ∈ fp, FpOk X pins (upd H s2.heap.objs.size (.lst [])) b := fun b hb => by
    obtain ⟨f0, r⟩ := hf b hb
    refine ⟨?_, r⟩
    obtain ⟨o, e, _⟩ := T.obj 0 _ st b hb
    rw [upd_ne (Nat.ne_of_lt (Heap.lt_size e))]; exact f0
  have ltf : ∀ b ∈ fp, b < s2.heap.objs.size := fun b hb => by
    obtain ⟨o, e, _⟩ := T.obj 0 _ st b hb
    exact Heap.lt_size e
  have st3 : tn 0 s3.heap := T.keep 0 _ _ st fun b _ o e => up3 b o e
  obtain ⟨W, ⟨m0, w0⟩, turn⟩ := rd _ hD
  refine wpAny_newFunctionEnv B.nocell (by intro y hy; simp at hy) (fun h₁ hns₁ hsb₁ => ?_) B.kind
  have hfC : ∀ b ∈ fp, b ≠ s3.heap.objs.size := fun b hb => Nat.ne_of_lt (by rw [sz3]; exact Nat.lt_succ_of_lt (ltf b hb))
  have up4 : ∀ b o, s3.heap.get? b = some o → h₁.get? b = some o := fun b o e => hsb₁.extBut b o (Nat.ne_of_lt (Heap.lt_size e)) (Heap.get?_push_of_some _ e)
  generalize hs4 : ({ s3 with heap := h₁, toks := s3.toks + ([] : List (Str × Value)).length } : Shared) = s4
  have h4 : s4.heap = h₁ := by rw [← hs4]
  have I4 : Inv (blk X x fv scope cl s3.heap.objs.size s3 (upd H s2.heap.objs.size (.lst [])) fp) [] (bst fv σ none) (upd H s2.heap.objs.size (.lst [])) s4 :=
    blk_start B I3 hf3 rfl hfC (by rw [← hs4]) (by rw [← hs4]) (fun b o e => by rw [h4]; exact up4 b o e) (by rw [h4]; exact hns₁)
  have st4 : tn 0 s4.heap := by rw [h4]; exact T.keep 0 _ _ st3 fun b _ o e => up4 b o e
  -- what stays true of the iterator's objects
  have stat : ∀ {H' : Hp}, (∀ b ∈ fp, H' b = none) → ∀ b ∈ fp, FpOk (blk X x fv scope cl s3.heap.objs.size s3 (upd H s2.heap.objs.size (.lst [])) fp) [] H' b := fun {H'} hn b hb => by
    obtain ⟨_, f1, f2, f3, f4, f5⟩ := hf b hb
    refine ⟨hn b hb, hfC b hb, fun z => ?_, .inl hb, fun y c e => f4 y c (B.sub y c e), fun p hp => absurd (show p ∈ ([] : List (Addr × Obj)) from hp) (by simp)⟩
    rcases List.mem_cons.mp (I.stkSub b z) with q | q
    · exact f1 q
    · exact f2 q
  have loop : codeAny (model X.prog X.w) X.A (.compLoop (.ListComp elt [⟨.Name x px, iter, [cnd], 0⟩] scope pos) 0 (.ref it) (.ref s2.heap.objs.size) (compEnvC scope cl s3.heap.objs.size X.env)) (RR (.ref s2.heap.objs.size) s3.heap.objs.size) s4 := by
    refine compLoop_if (fun n s' => ∃ i H' o, Inv (blk X x fv scope cl s3.heap.objs.size s3 (upd H s2.heap.objs.size (.lst [])) fp) [] (bst fv σ o) H' s' ∧ tn i s'.heap ∧ (∀ b ∈ fp, H' b = none) ∧ W i n H') ?_ m0
      ⟨0, _, none, I4, st4, fun b hb => (hf3 b hb).1, w0⟩
    rintro n s5 E' ⟨i, H5, o5, I5, st5, fr5, w5⟩
    rcases turn i n H5 w5 with ⟨stop, q⟩ | ⟨go, N, hN, step⟩
    · refine thn (T.done (blk X x fv scope cl s3.heap.objs.size s3 (upd H s2.heap.objs.size (.lst [])) fp) rfl rfl rfl hc i [] s5 _ H5 _ I5 (stat fr5) st5 stop) fun r s6 ⟨hr, I6⟩ => ?_
      subst hr
      obtain ⟨m6, hn6, _⟩ := I6.loc
      have un : Un (frs X.stack) fp H H5 s2.heap s6.heap := by
        have u1 : Un (frs X.stack) fp H (upd H s2.heap.objs.size (.lst [])) s2.heap s3.heap := Un.laid up3 (Nat.le_refl _) hD
        exact u1.trans I6.base
      have J6 : Inv X pins σ H5 s6 := by
        refine I.call' ?_ un I6.hok I6.bare fun b hb => ?_
        · have := I6.os
          rw [show (blk X x fv scope cl s3.heap.objs.size s3 (upd H s2.heap.objs.size (.lst [])) fp).s₀.os = s2.os by rw [← hs3]] at this
          exact this
        · obtain ⟨_, f1, f2, f3, f4, f5⟩ := hf b hb
          exact ⟨f3, f1, f4, f5⟩
      refine hRR _ _ s6 H5 m6 J6 ?_ hn6 q
      exact I3.fpOk (Nat.le_refl _) I6.free
    · refine thn (T.item (blk X x fv scope cl s3.heap.objs.size s3 (upd H s2.heap.objs.size (.lst [])) fp) rfl rfl rfl hc i [] s5 _ H5 _ I5 (stat fr5) st5 go) fun r s6 ⟨u, hr, h6⟩ => ?_
      subst hr
      refine thn h6 fun _ s7 ⟨v, H7, I7, r7, y7, st7, fr7⟩ => ?_
      have I7' := I7.pinned (stat fr7) (T.obj _ _ st7)
      refine blk_store B I7' r7 fun s8 I8 => ?_
      have c8 := hcn _ _ _ _ _ s8 _ H7 _ I8 (step v H7 y7)
      refine wpAny_mono c8 (fun bb sb ⟨Hb, Ib, qb⟩ => ?_) fun _ _ z => False.elim z
      cases bb with
      | false =>
        rw [if_neg (by decide)] at qb
        show (if false = true then _ else _)
        rw [if_neg (by decide)]
        obtain ⟨m', hm, w9⟩ := hN _ qb
        refine ⟨m', hm, i + 1, _, some v, Ib.unpinned, T.keep _ _ _ st7 fun b hb o e => (Ib.pin (b, o) (List.mem_append_right _ (List.mem_append_right _ (mem_pinsAt hb e)))).1, fun b hb => ?_, w9⟩
        obtain ⟨o, e, _⟩ := T.obj _ _ st7 b hb
        exact (Ib.pin (b, o) (List.mem_append_right _ (List.mem_append_right _ (mem_pinsAt hb e)))).2.1
      | true =>
        rw [if_pos rfl] at qb
        show (if true = true then _ else _)
        rw [if_pos rfl]
        have e8 := he _ _ _ _ _ sb _ Hb _ Ib qb
        refine wpAny_mono e8 (fun y s9 ⟨yv, H9, I9, r9, ys, hD9, hz, n9⟩ => ?_) fun _ _ z => False.elim z
        have a9 := mt_append (X := blk X x fv scope cl s3.heap.objs.size s3 (upd H s2.heap.objs.size (.lst [])) fp) _ s9 _ H9 (.ref s2.heap.objs.size) [yv] (.ref s2.heap.objs.size) [y] (fun _ H10 => H10 = upd H9 s2.heap.objs.size (.lst (ys ++ [yv]))) I9 rfl (.cons r9 .nil)
          ⟨_, ys, yv, rfl, rfl, hD9, hz, rfl⟩
        refine wpAny_mono a9 (fun _ s10 ⟨_, H10, I10, _, e10⟩ => ?_) fun _ _ z => False.elim z
        subst e10
        obtain ⟨m', hm, w9⟩ := hN _ n9
        refine ⟨m', hm, i + 1, _, some v, I10.unpinned, T.keep _ _ _ st7 fun b hb o e => (I10.pin (b, o) (List.mem_append_right _ (List.mem_append_right _ (mem_pinsAt hb e)))).1, fun b hb => ?_, w9⟩
        obtain ⟨o, e, _⟩ := T.obj _ _ st7 b hb
        exact (I10.pin (b, o) (List.mem_append_right _ (List.mem_append_right _ (mem_pinsAt hb e)))).2.1
  exact codeAny_compStart_list loop (T.self _ 0 _ _ _ st4 loop)
end
theorem a_compIf {fv : List (Nat × Str)} {wi : TI} {tt : TT} {te : TE} {σ : St} {H : Hp} {Q : VK} : tCompIf fv wi tt te σ H Q = wi σ H fun J H1 => ∀ D, H1 D = none → CLoopIf J fv tt te Q σ H1 D := rfl
theorem cl_listIf {K : PySem.W.Frag} {a : Addr} {xs : List V} {σ : St} {H1 : Hp} {fv : List (Nat × Str)} {tt : TT} {te : TE} {Q : VK} {L : Addr} (Pv : Nat → Hp → Prop) (h0 : Pv 0 (upd H1 L (.lst []))) (hl : ∀ i H, i ≤ xs.length → Pv i H → SqL K H a xs)
    (hs : ∀ i v H, xs[i]? = some v → Pv i H → tt (bst fv σ (some v)) H fun b Hb => if b = true then te (bst fv σ (some v)) Hb fun y H2 => ∃ ys, H2 L = some (.lst ys) ∧ ys.length < sizeLine ∧ Pv (i + 1) (upd H2 L (.lst (ys ++ [y]))) else Pv (i + 1) Hb) (hd : ∀ H, Pv xs.length H → Q (.ref L) H) :
    CLoopIf (Itl K a) fv tt te Q σ H1 L := by
  refine ⟨fun i m H => m = xs.length - i ∧ i ≤ xs.length ∧ Pv i H, ⟨xs.length, by simp, Nat.zero_le _, h0⟩, ?_⟩
  rintro i m H ⟨rfl, hi, p⟩
  have q := hl i H hi p
  by_cases hlt : i < xs.length
  · refine .inr ⟨⟨xs, xs[i], q, List.getElem?_eq_getElem hlt⟩, Pv (i + 1), fun H' p' => ⟨xs.length - (i + 1), by omega, rfl, hlt, p'⟩, fun v H' y => ?_⟩
    obtain ⟨e, y⟩ := y
    subst e
    exact hs i v _ (y xs q) p
  · have e : i = xs.length := by omega
    subst e
    exact .inl ⟨⟨xs, q, Nat.le_refl _⟩, hd H p⟩
end L2
namespace L2
open PySem PySem.Spec PyProof.Rows
theorem ints_are : ∀ {ns : List Int} {us : List Value}, Vals (ns.map V.int) us → IntsAre us ns
  | [], us, h => by
    cases h; exact .nil
  | n :: ns, us, h => by
    cases h with
    | cons r rr =>
      obtain ⟨t, rfl⟩ := r
      exact .cons n t (ints_are rr)
theorem at_best {zs : Array (Int × Tok)} {ns : List Int} (e : ns = zs.toList.map (·.1)) {j : Nat} (hj : j < zs.size) : numAt zs j ∈ ns := by
  rw [e, numAt_eq]
  exact PySem.getD_mem (by simpa using hj)
theorem of_best {zs : Array (Int × Tok)} {ns : List Int} (e : ns = zs.toList.map (·.1)) {x : Int} (hx : x ∈ ns) : ∃ j, j < zs.size ∧ numAt zs j = x := by
  rw [e] at hx
  obtain ⟨i, hi, h⟩ := mem_getD hx
  exact ⟨i, by simpa using hi, by rw [numAt_eq]; exact h⟩
theorem call_minL {X : Cx} (hc : X.calm = true) : CallR X (.builtin "min") (fun xs H Q => ∃ p ns, xs = [.ref p] ∧ SqL X.K H p (ns.map V.int) ∧ ns ≠ [] ∧ ∀ M, M ∈ ns → (∀ a, a ∈ ns → M ≤ a) → Q (.int M) H) := by
  intro pins s σ H xs us Q I r h
  obtain ⟨p, ns, rfl, hq, hne, q⟩ := h
  obtain ⟨u, rfl, rx⟩ := vals1 r
  cases rx
  obtain ⟨its, r', pl, hz⟩ := I.list hq
  have hi := ints_are r'
  obtain ⟨zs, e⟩ := hi.allInts.items
  have hns : ns = zs.toList.map (·.1) := by rw [← hi.numsOf, ← nums_intItems, ← e]
  have hsz : 0 < zs.size := by
    have h3 := List.length_pos_iff.mpr hne
    rw [hns, List.length_map, Array.length_toList] at h3; exact h3
  have hl := pl.isList
  rw [e] at hl
  refine min_intList (I.ok.hd hc) hl hsz fun v h' tk hv hk => ?_
  obtain ⟨tv, rfl⟩ := intItems_at hv
  obtain ⟨g1, g2⟩ := argBest_lt (numAt zs) (zs.size - 1)
  refine ⟨.int _, H, I.kept hk, ⟨tv, rfl⟩, q _ (at_best hns (by omega)) fun x hx => ?_⟩
  obtain ⟨i, hi, rfl⟩ := of_best hns hx
  exact g2 i (by omega)
theorem call_maxL {X : Cx} (hc : X.calm = true) : CallR X (.builtin "max") (fun xs H Q => ∃ p ns, xs = [.ref p] ∧ SqL X.K H p (ns.map V.int) ∧ ns ≠ [] ∧ ∀ M, M ∈ ns → (∀ a, a ∈ ns → a ≤ M) → Q (.int M) H) := by
  intro pins s σ H xs us Q I r h
  obtain ⟨p, ns, rfl, hq, hne, q⟩ := h
  obtain ⟨u, rfl, rx⟩ := vals1 r
  cases rx
  obtain ⟨its, r', pl, hz⟩ := I.list hq
  have hi := ints_are r'
  obtain ⟨zs, e⟩ := hi.allInts.items
  have hns : ns = zs.toList.map (·.1) := by rw [← hi.numsOf, ← nums_intItems, ← e]
  have hsz : 0 < zs.size := by
    have h3 := List.length_pos_iff.mpr hne
    rw [hns, List.length_map, Array.length_toList] at h3; exact h3
  have hl := pl.isList
  rw [e] at hl
  refine max_intList (I.ok.hd hc) hl hsz fun v h' tk hv hk => ?_
  obtain ⟨tv, rfl⟩ := intItems_at hv
  obtain ⟨g1, g2⟩ := argBest_gt (numAt zs) (zs.size - 1)
  refine ⟨.int _, H, I.kept hk, ⟨tv, rfl⟩, q _ (at_best hns (by omega)) fun x hx => ?_⟩
  obtain ⟨i, hi, rfl⟩ := of_best hns hx
  exact g2 i (by omega)
def tFst (x : Str) (te : TE) : TE := fun σ H Q => (Str.empty ++ x).length ≤ sizeLine ∧ te σ H fun v H1 => ∃ i, v = .int i ∧ i.natAbs.log2 < 1920 ∧ (Str.empty ++ x ++ Str.ofString (toString i)).length ≤ sizeLine ∧ Q (.str (Str.empty ++ x ++ Str.ofString (toString i))) H1
theorem a_fst {x : Str} {te : TE} {σ : St} {H : Hp} {Q : VK} : tFst x te σ H Q = ((Str.empty ++ x).length ≤ sizeLine ∧ te σ H fun v H1 => ∃ i, v = .int i ∧ i.natAbs.log2 < 1920 ∧ (Str.empty ++ x ++ Str.ofString (toString i)).length ≤ sizeLine ∧ Q (.str (Str.empty ++ x ++ Str.ofString (toString i))) H1) := rfl
theorem pe_fst {X : Cx} {x : Str} {j : Nat} {e : Expr} {te : TE} {p1 p2 p3 : Pos} (he : PE X e te) (hev : evalEach [.Constant (.str x) j p1, .FormattedValue e (-1) none p2] X.env = [eval (.Constant (.str x) j p1) X.env, eval (.FormattedValue e (-1) none p2) X.env] := by rfl) :
    PE X (.JoinedStr [.Constant (.str x) j p1, .FormattedValue e (-1) none p2] p3) (tFst x te) := by
  intro pins s σ H Q I h
  refine wpAny_JoinedStr ?_
  rw [hev]
  refine Calls.Constant_str ⟨x, _, rfl, ?_⟩
  obtain ⟨l1, hx⟩ : _ ∧ _ := h
  have h2 := he pins { s with toks := s.toks + 1 } σ H _ (I.tok _) hx
  refine ⟨l1, ?_⟩
  refine wpAny_FormattedValue_plain (wpAny_mono h2 (fun v s₁ z => ?_) fun _ _ y => y)
  obtain ⟨v', H1, I1, rv, i, rfl, hd, l2, q⟩ := z
  obtain ⟨t, rfl⟩ := rv
  exact wpAny_formatField_int hd ⟨_, _, rfl, l2, l2, .str _, H1, (I1.tok _).tok _, ⟨_, rfl⟩, q⟩
end L2
namespace L2
open PySem PySem.Spec PyProof.Rows
@[reducible] def blk2 (X : Cx) (x z : Str) (fv : List (Nat × Str)) (scope : Scope) (cl : List (Str × Addr)) (C : Addr) (s : Shared) (H : Hp) (fp : List Addr) : Cx where
  prog := X.prog
  w := X.w
  K := X.K
  mg := X.mg
  base := X.base
  A := X.A
  N := x :: z :: fv.map (·.2)
  s₀ := s
  H₀ := H
  env := compEnvC scope cl C X.env
  outer := X.stack
  stack := X.stack
  ex := fp
  fn := fun _ => false
  calm := X.calm
  pn := []
  xe := fun _ _ => False
def bst2 (fv : List (Nat × Str)) (σ : St) (v v2 : Option V) : St := v :: v2 :: fv.map fun p => (σ[p.1]?).getD none
structure BlkOk2 (X : Cx) (x z : Str) (fv : List (Nat × Str)) (scope : Scope) (cl : List (Str × Addr)) : Prop where
  clos : closureFor scope X.env = pure cl
  nocell : ∀ y ∈ scope.names, y.2 ≠ .cell
  kind : scope.kind = .function
  names : ∀ y ∈ scope.names, y.2 = .local → scope.names.lookup y.1 = some .local
  here : scope.names.lookup x = some .local
  here2 : scope.names.lookup z = some .local
  nd : (x :: z :: fv.map (·.2)).Nodup
  sub : ∀ y c, cl.lookup y = some c → X.env.cells.lookup y = some c
  has : ∀ y, ((relabel scope X.env).names.lookup y = some .cell ∨ (relabel scope X.env).names.lookup y = some .free) → ∃ c, cl.lookup y = some c
  fvs : ∀ p ∈ fv, X.N[p.1]? = some p.2 ∧ (X.env.scope.names.lookup p.2 = some .cell ∨ X.env.scope.names.lookup p.2 = some .free) ∧
    ((relabel scope X.env).names.lookup p.2 = some .cell ∨ (relabel scope X.env).names.lookup p.2 = some .free) ∧ ∃ c, cl.lookup p.2 = some c
section
variable {X : Cx} {elt iter : Expr} {x z : Str} {px pz : Pos} {tk : Nat} {tpos : Pos} {fv : List (Nat × Str)} {scope : Scope} {cl : List (Str × Addr)} {pos : Pos} {te : TE} {wi : TI}
theorem blk_ok2 {pins : List (Addr × Obj)} {σ : St} {H : Hp} {s : Shared} {fp : List Addr} {C : Addr} (B : BlkOk2 X x z fv scope cl) (I : Inv X pins σ H s) (hf : ∀ b ∈ fp, FpOk X pins H b) (hC : s.heap.objs.size ≤ C) (hfC : ∀ b ∈ fp, b ≠ C) :
    (blk2 X x z fv scope cl C s H fp).Ok where
  mod := I.ok.mod
  kind := B.kind
  glob := I.ok.glob
  blt := I.ok.blt
  above := hC
  inj := fun y y' c h1 h2 => I.ok.inj y y' c (B.sub y c h1) (B.sub y' c h2)
  has := fun y hy => B.has y hy
  cab := fun y c h => nomatch h
  hd := I.ok.hd
  frames := I.ok.frames
  stk := .inl rfl
  exf := fun b hb => ⟨hfC b hb, fun y c e => (hf b hb).2.2.2.2.1 y c (B.sub y c e)⟩
  bs := I.bs
  bsz := Nat.le_trans I.ok.bsz I.sz
  noex := fun b o e hb => by
    obtain ⟨_, _, _, f3, _⟩ := hf b hb
    rcases f3 with z' | z'
    · exact I.ok.noex b o e z'
    · exact absurd (Nat.lt_of_lt_of_le (Heap.lt_size e) (Nat.le_trans I.ok.bsz z')) (Nat.lt_irrefl _)
  exfs := fun b hb hs => by
    obtain ⟨_, f1, f2, _⟩ := hf b hb
    rcases List.mem_cons.mp (I.stkSub b hs) with z | z
    · exact f1 z
    · exact f2 z
  funs := I.stack
  frf := I.stkFree
theorem bst_get2 {fv : List (Nat × Str)} {σ : St} {o o2 : Option V} {j : Nat} {y : Str} {v : V} (h1 : (x :: z :: fv.map (·.2))[j + 2]? = some y) (h2 : (bst2 fv σ o o2)[j + 2]? = some (some v)) : ∃ p ∈ fv, p.2 = y ∧ σ[p.1]? = some (some v) := by
  have e1 : (fv.map (·.2))[j]? = some y := by simpa using h1
  have e2 : (fv.map fun p => (σ[p.1]?).getD none)[j]? = some (some v) := by simpa [bst2] using h2
  rw [List.getElem?_map] at e1 e2
  cases q : fv[j]? with
  | none => rw [q] at e1; cases e1
  | some p =>
    rw [q] at e1 e2
    refine ⟨p, List.mem_of_getElem? q, Option.some.inj e1, ?_⟩
    have e3 : (σ[p.1]?).getD none = some v := Option.some.inj e2
    cases r : σ[p.1]? with
    | none => rw [r] at e3; cases e3
    | some w => rw [r] at e3; exact congrArg some e3
theorem blk_start2 {pins : List (Addr × Obj)} {σ : St} {H : Hp} {s s4 : Shared} {fp : List Addr} {C : Addr} {m : Str → Option Value} (B : BlkOk2 X x z fv scope cl) (I : Inv X pins σ H s) (hf : ∀ b ∈ fp, FpOk X pins H b) (hC : C = s.heap.objs.size)
    (hfC : ∀ b ∈ fp, b ≠ C) (os : s4.os = s.os) (gens : s4.gens = s.gens) (keep : ∀ b o, s.heap.get? b = some o → s4.heap.get? b = some o) (ns : s4.heap.Ns C m) :
    Inv (blk2 X x z fv scope cl C s H fp) [] (bst2 fv σ none none) H s4 := by
  subst hC
  refine ⟨blk_ok2 B I hf (Nat.le_refl _) hfC, os, by rw [gens]; exact I.bare, Un.kept keep, ⟨m, ns, fun i y v h1 h2 h3 => ?_⟩, fun y c e => ?_, I.hok.fresh (Nat.le_refl _), fun y c e => I.freeC y c (B.sub y c e), fun p hp => absurd (show p ∈ ([] : List (Addr × Obj)) from hp) (by simp), I.hok.kept keep, by simp [bst2]⟩
  · cases i with
    | zero => simp [bst2] at h2
    | succ j =>
     cases j with
     | zero => simp [bst2] at h2
     | succ j =>
      obtain ⟨p, hp, rfl, hv⟩ := bst_get2 h1 h2
      obtain ⟨hN, hk, hk2, c, hc⟩ := B.fvs p hp
      obtain ⟨m0, _, hl⟩ := I.loc
      have vis : Vis X.env.scope p.2 := hk.elim (fun z => .inr (.inl z)) fun z => .inr (.inr z)
      obtain ⟨u, r, l⟩ := hl p.1 p.2 v hN hv vis
      refine ⟨u, r, .inr ⟨hk2, c, hc, ?_⟩⟩
      rcases l with ⟨z, _⟩ | ⟨_, c', hc', o, ho, hd⟩
      · have z' : X.env.scope.names.lookup p.2 = some .local := z
        rcases hk with k | k <;> (rw [k] at z'; cases z')
      · have := B.sub p.2 c hc
        rw [hc'] at this; cases this
        exact ⟨o, keep _ o ho, hd⟩
  · obtain ⟨v, o, ho, hd⟩ := I.cell y c (B.sub y c e)
    exact ⟨v, o, keep c o ho, hd⟩
theorem blk_store2 {s : Shared} {H0 : Hp} {fp : List Addr} {C : Addr} (hc : X.calm = true) (B : BlkOk2 X x z fv scope cl) :
    PG (blk2 X x z fv scope cl C s H0 fp) (.Tuple [.Name x px, .Name z pz] tk tpos) (gTup X.K 2 (gCons (gName 0) (gCons (gName 1) gNil))) := by
  have h1 : (relabel scope X.env).names.lookup x = some .local := lookup_relabel_local B.here
  have h2 : (relabel scope X.env).names.lookup z = some .local := lookup_relabel_local B.here2
  exact pg_tup (X := blk2 X x z fv scope cl C s H0 fp) hc (pgs_cons (pg_name (i := 0) B.nd rfl (.inl h1) (.inr h1)) (pgs_cons (pg_name (i := 1) B.nd rfl (.inl h2) (.inr h2)) pgs_nil))
theorem blk_run2 {pins : List (Addr × Obj)} {σ : St} {H : Hp} {s2 : Shared} {it : Addr} {fp : List Addr} {tn : Nat → Heap → Prop} {J : It} {Q : VK} {E : Value → Shared → Prop} {RR : Value → Addr → Result → Shared → Prop}
    (hc : X.calm = true) (B : BlkOk2 X x z fv scope cl) (he : ∀ C s H fp, PE (blk2 X x z fv scope cl C s H fp) elt te) (I : Inv X pins σ H s2) (T : Turn X.prog X.w X.K (.Tuple [.Name x px, .Name z pz] tk tpos) J fp it tn) (st : tn 0 s2.heap) (hf : ∀ b ∈ fp, FpOk X pins H b)
    (rd : ∀ D, H D = none → ∃ W : Nat → Nat → Hp → Prop, (∃ m, W 0 m (upd H D (.lst []))) ∧ ∀ i m H, W i m H →
      (J.stop i H ∧ Q (.ref D) H) ∨ (J.go i H ∧ ∃ N : Hp → Prop, (∀ H', N H' → ∃ m', m' < m ∧ W (i + 1) m' H') ∧ ∀ v H', J.yld i H v H' → ∃ q x1 x2, v = .ref q ∧ SqT X.K H' q [x1, x2] ∧ te (bst2 fv σ (some x1) (some x2)) H' fun y H2 => ∃ ys, H2 D = some (.lst ys) ∧ ys.length < sizeLine ∧ N (upd H2 D (.lst (ys ++ [y])))))
    (hRR : ∀ D C s' H' m', Inv X pins σ H' s' → FpOk X pins H' C → s'.heap.Ns C m' → Q (.ref D) H' → RR (.ref D) C (.ok .next) s') :
    wpAny (model X.prog X.w) X.A (newList []) (fun acc s₃ => wpAny (model X.prog X.w) X.A (newFunctionEnv scope X.env.globals cl [] X.env.qual none .none (some X.env)) (fun cenv s₄ =>
      codeAny (model X.prog X.w) X.A (.compStart (.ListComp elt [⟨(.Tuple [.Name x px, .Name z pz] tk tpos), iter, [], 0⟩] scope pos) 0 (.ref it) acc { cenv with scope := relabel scope X.env }) (RR acc cenv.locals) s₄) E s₃) E s2 := by
  refine wpAny_newObj_type ?_ (by show 0 ≤ sizeLine; exact Nat.zero_le _)
  have hD : H s2.heap.objs.size = none := I.hok.fresh (Nat.le_refl _)
  have I3 := I.lnew (ys := []) (its := []) (t' := s2.toks) .nil (Nat.zero_le _)
  generalize hs3 : ({ s2 with heap := s2.heap.push { cls := .type "list", data := .seq ([] : List Value).toArray }, toks := s2.toks } : Shared) = s3 at I3
  have sz3 : s3.heap.objs.size = s2.heap.objs.size + 1 := by rw [← hs3]; exact Heap.size_push ..
  have up3 : ∀ b o, s2.heap.get? b = some o → s3.heap.get? b = some o := fun b o e => by rw [← hs3]; exact Heap.get?_push_of_some _ e
  have hf3 : ∀ b ∈ fp, FpOk X pins (upd H s2.heap.objs.size (.lst [])) b := fun b hb => by
    obtain ⟨f0, r⟩ := hf b hb
    refine ⟨?_, r⟩
    obtain ⟨o, e, _⟩ := T.obj 0 _ st b hb
    rw [upd_ne (Nat.ne_of_lt (Heap.lt_size e))]; exact f0
  have ltf : ∀ b ∈ fp, b < s2.heap.objs.size := fun b hb => by
    obtain ⟨o, e, _⟩ := T.obj 0 _ st b hb
    exact Heap.lt_size e
  have st3 : tn 0 s3.heap := T.keep 0 _ _ st fun b _ o e => up3 b o e
  obtain ⟨W, ⟨m0, w0⟩, turn⟩ := rd _ hD
  refine wpAny_newFunctionEnv B.nocell (by intro y hy; simp at hy) (fun h₁ hns₁ hsb₁ => ?_) B.kind
  have hfC : ∀ b ∈ fp, b ≠ s3.heap.objs.size := fun b hb => Nat.ne_of_lt (by rw [sz3]; exact Nat.lt_succ_of_lt (ltf b hb))
  have up4 : ∀ b o, s3.heap.get? b = some o → h₁.get? b = some o := fun b o e => hsb₁.extBut b o (Nat.ne_of_lt (Heap.lt_size e)) (Heap.get?_push_of_some _ e)
  generalize hs4 : ({ s3 with heap := h₁, toks := s3.toks + ([] : List (Str × Value)).length } : Shared) = s4
  have h4 : s4.heap = h₁ := by rw [← hs4]
  have I4 : Inv (blk2 X x z fv scope cl s3.heap.objs.size s3 (upd H s2.heap.objs.size (.lst [])) fp) [] (bst2 fv σ none none) (upd H s2.heap.objs.size (.lst [])) s4 :=
    blk_start2 B I3 hf3 rfl hfC (by rw [← hs4]) (by rw [← hs4]) (fun b o e => by rw [h4]; exact up4 b o e) (by rw [h4]; exact hns₁)
  have st4 : tn 0 s4.heap := by rw [h4]; exact T.keep 0 _ _ st3 fun b _ o e => up4 b o e
  -- what stays true of the iterator's objects
  have stat : ∀ {H' : Hp}, (∀ b ∈ fp, H' b = none) → ∀ b ∈ fp, FpOk (blk2 X x z fv scope cl s3.heap.objs.size s3 (upd H s2.heap.objs.size (.lst [])) fp) [] H' b := fun {H'} hn b hb => by
    obtain ⟨_, f1, f2, f3, f4, f5⟩ := hf b hb
    refine ⟨hn b hb, hfC b hb, fun z' => ?_, .inl hb, fun y c e => f4 y c (B.sub y c e), fun p hp => absurd (show p ∈ ([] : List (Addr × Obj)) from hp) (by simp)⟩
    rcases List.mem_cons.mp (I.stkSub b z') with q | q
    · exact f1 q
    · exact f2 q
  have loop : codeAny (model X.prog X.w) X.A (.compLoop (.ListComp elt [⟨(.Tuple [.Name x px, .Name z pz] tk tpos), iter, [], 0⟩] scope pos) 0 (.ref it) (.ref s2.heap.objs.size) (compEnvC scope cl s3.heap.objs.size X.env)) (RR (.ref s2.heap.objs.size) s3.heap.objs.size) s4 := by
    refine compLoop_one (fun n s' => ∃ i H' o o2, Inv (blk2 X x z fv scope cl s3.heap.objs.size s3 (upd H s2.heap.objs.size (.lst [])) fp) [] (bst2 fv σ o o2) H' s' ∧ tn i s'.heap ∧ (∀ b ∈ fp, H' b = none) ∧ W i n H') ?_ m0
      ⟨0, _, none, none, I4, st4, fun b hb => (hf3 b hb).1, w0⟩
    rintro n s5 E' ⟨i, H5, o5, o6, I5, st5, fr5, w5⟩
    rcases turn i n H5 w5 with ⟨stop, q⟩ | ⟨go, N, hN, step⟩
    · refine thn (T.done (blk2 X x z fv scope cl s3.heap.objs.size s3 (upd H s2.heap.objs.size (.lst [])) fp) rfl rfl rfl hc i [] s5 _ H5 _ I5 (stat fr5) st5 stop) fun r s6 ⟨hr, I6⟩ => ?_
      subst hr
      obtain ⟨m6, hn6, _⟩ := I6.loc
      have un : Un (frs X.stack) fp H H5 s2.heap s6.heap := by
        have u1 : Un (frs X.stack) fp H (upd H s2.heap.objs.size (.lst [])) s2.heap s3.heap := Un.laid up3 (Nat.le_refl _) hD
        exact u1.trans I6.base
      have J6 : Inv X pins σ H5 s6 := by
        refine I.call' ?_ un I6.hok I6.bare fun b hb => ?_
        · have := I6.os
          rw [show (blk2 X x z fv scope cl s3.heap.objs.size s3 (upd H s2.heap.objs.size (.lst [])) fp).s₀.os = s2.os by rw [← hs3]] at this
          exact this
        · obtain ⟨_, f1, f2, f3, f4, f5⟩ := hf b hb
          exact ⟨f3, f1, f4, f5⟩
      refine hRR _ _ s6 H5 m6 J6 ?_ hn6 q
      exact I3.fpOk (Nat.le_refl _) I6.free
    · refine thn (T.item (blk2 X x z fv scope cl s3.heap.objs.size s3 (upd H s2.heap.objs.size (.lst [])) fp) rfl rfl rfl hc i [] s5 _ H5 _ I5 (stat fr5) st5 go) fun r s6 ⟨u, hr, h6⟩ => ?_
      subst hr
      refine thn h6 fun _ s7 ⟨v, H7, I7, r7, y7, st7, fr7⟩ => ?_
      have I7' := I7.pinned (stat fr7) (T.obj _ _ st7)
      obtain ⟨q7, x1, x2, ev, sq7, rd7⟩ := step v H7 y7
      refine wpAny_mono (blk_store2 (px := px) (pz := pz) (tk := tk) (tpos := tpos) hc B _ s7 _ H7 v u (fun σ' H' => σ' = bst2 fv σ (some x1) (some x2) ∧ H' = H7) I7' r7 ⟨q7, [x1, x2], ev, sq7, rfl, x1, [x2], rfl, x2, [], rfl, rfl, rfl, rfl⟩) (fun _ s8 ⟨σ8, H8, I8, e8a, e8b⟩ => ?_) fun _ _ z => False.elim z
      subst e8a e8b
      have e8 := he _ _ _ _ _ s8 _ _ _ I8 rd7
      refine wpAny_mono e8 (fun y s9 ⟨yv, H9, I9, r9, ys, hD9, hz, n9⟩ => ?_) fun _ _ z => False.elim z
      have a9 := mt_append (X := blk2 X x z fv scope cl s3.heap.objs.size s3 (upd H s2.heap.objs.size (.lst [])) fp) _ s9 _ H9 (.ref s2.heap.objs.size) [yv] (.ref s2.heap.objs.size) [y] (fun _ H10 => H10 = upd H9 s2.heap.objs.size (.lst (ys ++ [yv]))) I9 rfl (.cons r9 .nil)
        ⟨_, ys, yv, rfl, rfl, hD9, hz, rfl⟩
      refine wpAny_mono a9 (fun _ s10 ⟨_, H10, I10, _, e10⟩ => ?_) fun _ _ z => False.elim z
      subst e10
      obtain ⟨m', hm, w9⟩ := hN _ n9
      refine ⟨m', hm, i + 1, _, some x1, some x2, I10.unpinned, T.keep _ _ _ st7 fun b hb o e => (I10.pin (b, o) (List.mem_append_right _ (List.mem_append_right _ (mem_pinsAt hb e)))).1, fun b hb => ?_, w9⟩
      obtain ⟨o, e, _⟩ := T.obj _ _ st7 b hb
      exact (I10.pin (b, o) (List.mem_append_right _ (List.mem_append_right _ (mem_pinsAt hb e)))).2.1
  exact codeAny_compStart_list loop (T.self _ 0 _ _ _ st4 loop)
def CLoop2 (K : PySem.W.Frag) (J : It) (fv : List (Nat × Str)) (te : TE) (Q : VK) (σ : St) (H1 : Hp) (D : Addr) : Prop := ∃ W : Nat → Nat → Hp → Prop, (∃ m, W 0 m (upd H1 D (.lst []))) ∧ ∀ i m H, W i m H →
  (J.stop i H ∧ Q (.ref D) H) ∨ (J.go i H ∧ ∃ N : Hp → Prop, (∀ H', N H' → ∃ m', m' < m ∧ W (i + 1) m' H') ∧ ∀ v H', J.yld i H v H' → ∃ q x1 x2, v = .ref q ∧ SqT K H' q [x1, x2] ∧ te (bst2 fv σ (some x1) (some x2)) H' fun y H2 => ∃ ys, H2 D = some (.lst ys) ∧ ys.length < sizeLine ∧ N (upd H2 D (.lst (ys ++ [y]))))
def tComp2 (K : PySem.W.Frag) (fv : List (Nat × Str)) (wi : TI) (te : TE) : TE := fun σ H Q => wi σ H fun J H1 => ∀ D, H1 D = none → CLoop2 K J fv te Q σ H1 D
theorem a_tComp2 {K : PySem.W.Frag} {σ : St} {H : Hp} {Q : VK} : tComp2 K fv wi te σ H Q = wi σ H fun J H1 => ∀ D, H1 D = none → CLoop2 K J fv te Q σ H1 D := rfl
theorem pe_lcomp2 (hc : X.calm = true) (B : BlkOk2 X x z fv scope cl) (hi : PI X (.Tuple [.Name x px, .Name z pz] tk tpos) iter wi) (he : ∀ C s H fp, PE (blk2 X x z fv scope cl C s H fp) elt te)
    (hs : ∀ v, foldedSetIterable iter X.env v = pure v := by intro _; rfl) : PE X (.ListComp elt [⟨.Tuple [.Name x px, .Name z pz] tk tpos, iter, [], 0⟩] scope pos) (tComp2 X.K fv wi te) := by
  intro pins s σ H Q I h
  rw [eval_ListComp]
  refine wpAny_comprehension_free (use := none) rfl hs B.clos B.kind B.names (thn (hi pins s σ H _ I h) fun v s1 h1 => thn h1 fun itv s2 h2 => ?_)
  obtain ⟨it, fp, tn, J, H2, e, I2, T, st2, f2, rd⟩ := h2
  subst e
  refine blk_run2 (RR := fun acc C => compPost (model X.prog X.w) X.A X.xe none (EP X pins σ Q) acc C) hc B he I2 T st2 f2 rd ?_
  intro D C s' H' m' I' fC hn q
  exact ⟨m', hn, fun h' sb => ⟨.ref D, H', I'.turned (t' := s'.toks) (fun b o hb e => (sb.2 b hb).trans e) fC.1 fC.2.1 fC.2.2.2.1 fC.2.2.2.2.1 fC.2.2.2.2.2, rfl, q⟩⟩
def FvOk2 (X : Cx) (scope : Scope) (cl : List (Str × Addr)) (fv : List (Nat × Str)) : Prop := ∀ p ∈ fv, X.N[p.1]? = some p.2 ∧ (X.env.scope.names.lookup p.2 = some .cell ∨ X.env.scope.names.lookup p.2 = some .free) ∧
    ((relabel scope X.env).names.lookup p.2 = some .cell ∨ (relabel scope X.env).names.lookup p.2 = some .free) ∧ ∃ c, cl.lookup p.2 = some c
theorem fv_nil2 {X : Cx} {scope : Scope} {cl : List (Str × Addr)} : FvOk2 X scope cl [] := fun _ h => nomatch h
theorem fv_cons2 {X : Cx} {scope : Scope} {cl : List (Str × Addr)} {fv : List (Nat × Str)} (i : Nat) (y : Str) (h2 : X.N[i]? = some y) (h3 : X.env.scope.names.lookup y = some .cell ∨ X.env.scope.names.lookup y = some .free)
    (h4 : (relabel scope X.env).names.lookup y = some .cell ∨ (relabel scope X.env).names.lookup y = some .free) (h5 : ∃ c, cl.lookup y = some c) (r : FvOk2 X scope cl fv) : FvOk2 X scope cl ((i, y) :: fv) := fun p hp => by
  rcases List.mem_cons.mp hp with rfl | hp
  · exact ⟨h2, h3, h4, h5⟩
  · exact r p hp
theorem blkok2 {X : Cx} {x z : Str} {fv : List (Nat × Str)} {scope : Scope} {cl : List (Str × Addr)} (clos : closureFor scope X.env = pure cl) (sub : ∀ y c, cl.lookup y = some c → X.env.cells.lookup y = some c) (fvs : FvOk2 X scope cl fv)
    (nd : (x :: z :: fv.map (·.2)).Nodup := by decide) (kind : scope.kind = .function := by rfl) (here : scope.names.lookup x = some .local := by rfl) (here2 : scope.names.lookup z = some .local := by rfl) (nocell : ∀ y ∈ scope.names, y.2 ≠ .cell := by decide +kernel)
    (names : ∀ y ∈ scope.names, y.2 = .local → scope.names.lookup y.1 = some .local := by decide +kernel)
    (has : ((relabel scope X.env).names.all fun p => (p.2 != .cell && p.2 != .free) || (cl.lookup p.1).isSome) = true := by rfl) : BlkOk2 X x z fv scope cl :=
  ⟨clos, nocell, kind, names, here, here2, nd, sub, has_of has, fvs⟩
end
def Itz (K : PySem.W.Frag) (a b : Addr) : It :=
  ⟨fun i H => ∃ xs ys x y, SqL K H a xs ∧ SqL K H b ys ∧ xs[i]? = some x ∧ ys[i]? = some y, fun i H v H' => ∃ p x y, H p = none ∧ v = .ref p ∧ H' = upd H p (.tup [x, y]) ∧ (∀ xs, SqL K H a xs → xs[i]? = some x) ∧ ∀ ys, SqL K H b ys → ys[i]? = some y,
    fun i H => ∃ xs ys, SqL K H a xs ∧ SqL K H b ys ∧ (xs.length ≤ i ∨ ys.length ≤ i)⟩
theorem turn_zip {P : Program} {w : World} {K : PySem.W.Frag} {elts : List Expr} {tk : Nat} {tpos : Pos} (a b z TI TO i1 i2 : Addr) (D : ZipApart z TI TO i1 i2 a b) :
    Turn P w K (.Tuple elts tk tpos) (Itz K a b) [z, TI, TO, i1, i2] z (fun i h => IsZip h z TI TO .none ∧ IsPair h TI (.ref i1) (.ref i2) ∧ (∃ u v, IsPair h TO u v) ∧ h.IsListIter i1 a i ∧ h.IsListIter i2 b i) where
  mem := by simp
  obj := fun i h st c hb => by
    obtain ⟨hz, hTI, ⟨u, v, hTO⟩, ⟨o1, e1, c1, d1⟩, ⟨o2, e2, c2, d2⟩⟩ := st
    simp only [List.mem_cons, List.not_mem_nil, or_false] at hb
    rcases hb with rfl | rfl | rfl | rfl | rfl
    · exact ⟨_, hz, fun v z => by
        have z' : Data.fields _ = Data.cell v := z
        cases z'⟩
    · exact ⟨_, hTI, fun v z => by
        have z' : Data.seq _ = Data.cell v := z
        cases z'⟩
    · exact ⟨_, hTO, fun v z => by
        have z' : Data.seq _ = Data.cell v := z
        cases z'⟩
    · exact ⟨o1, e1, fun v z => by rw [d1] at z; cases z⟩
    · exact ⟨o2, e2, fun v z => by rw [d2] at z; cases z⟩
  keep := fun i h h' st k => by
    obtain ⟨hz, hTI, ⟨u, v, hTO⟩, h1, h2⟩ := st
    exact ⟨k z (by simp) _ hz, k TI (by simp) _ hTI, ⟨u, v, k TO (by simp) _ hTO⟩, h1.at fun o q => k i1 (by simp) o q, h2.at fun o q => k i2 (by simp) o q⟩
  item := by
    intro X hP hw hK hc i pins s σ H E I hf st hg
    subst hP hw hK
    obtain ⟨xs, ys, x, y, hq1, hq2, hx, hy⟩ := hg
    obtain ⟨its1, rv1, pl1, hz1⟩ := I.list hq1
    obtain ⟨its2, rv2, pl2, hz2⟩ := I.list hq2
    obtain ⟨u1, hu1, ru1⟩ := rv1.get hx
    obtain ⟨u2, hu2, ru2⟩ := rv2.get hy
    obtain ⟨hz, hTI, ⟨_, _, hTO⟩, hit1, hit2⟩ := st
    refine wpAny_pyNext_zip_item D hz hTI hTO hit1 hit2 pl1.isList pl2.isList (x := u1) (y := u2) (by simpa using hu1) (by simpa using hu2) fun h1 ho hTO1 hi1 hi2 hT hsz hk => ?_
    refine ⟨_, rfl, wpAny_letOwnedTupleGo_zip ho fun h2 he2 hs2 => ?_⟩
    have hp : H s.heap.objs.size = none := I.hok.fresh (Nat.le_refl _)
    have hpz : s.heap.objs.size ≠ z := Nat.ne_of_gt (Heap.lt_size hz)
    have k2 : ∀ c o, c ∉ [z, TI, TO, i1, i2] → s.heap.get? c = some o → h2.get? c = some o := fun c o hb q =>
      (hs2.2 c fun e => hb (by simp [e])).trans (hk c o (fun e => hb (by simp [e])) (fun e => hb (by simp [e])) (fun e => hb (by simp [e])) (fun e => hb (by simp [e])) q)
    have hT2 : h2.get? s.heap.objs.size = some { cls := .type "tuple", data := .seq #[u1, u2] } := (hs2.2 _ hpz).trans hT
    have nch : ∀ c u, H c = some u → c ∉ [z, TI, TO, i1, i2] := fun c u q hb => by
      rw [(hf c hb).1] at q; cases q
    have up : ∀ c, c < s.heap.objs.size → c ≠ s.heap.objs.size := fun c hb => Nat.ne_of_lt hb
    have I2 : Inv X pins σ (upd H s.heap.objs.size (.tup [x, y])) { s with heap := h2 } := by
      refine I.step (g' := s.gens) (d' := s.drawn) (t' := s.toks) (ch := [z, TI, TO, i1, i2]) (fun c hb => ?_) (fun c o _ _ hc q _ => k2 c o hc q) (fun c o _ _ hc q _ => ⟨o.slots, k2 c o hc q⟩)
        (fun c o _ q n => by rw [upd_ne (up c (Heap.lt_size q))]; exact n) (fun c o hc q => ⟨o, k2 c o hc q⟩) (fun c ys q => by rw [upd_ne (ne_of_none q hp)]; exact q) (fun c o v q => by rw [upd_ne (ne_of_none q hp)]; exact q)
        (fun c ps q => ⟨#[], by rw [upd_ne (ne_of_none q hp), q]; simp⟩) (fun m hm => ?_) (fun c v q => ?_) I.bare
      · obtain ⟨f0, f1, f2, f3, f4, f5⟩ := hf c hb
        exact ⟨f3, f1, f4, f5⟩
      · obtain ⟨o, es, ep, q, r⟩ := hm
        refine ⟨o, es, ep, k2 _ o (fun e => ?_) q, r⟩
        exact (hf _ e).2.1 rfl
      · by_cases hb : c = s.heap.objs.size
        · subst hb
          rw [upd_same] at q; cases q
          exact ⟨by show 2 ≤ sizeLine; decide, [u1, u2], .cons ru1 (.cons ru2 .nil), ⟨_, hT2, rfl, _, rfl⟩⟩
        · rw [upd_ne hb] at q
          refine (I.hok c v q).stay (fun c' o hc r => k2 c' o ?_ r) (fun c' r => by rw [upd_ne (ne_of_none r hp)]; exact r) fun c' ys r => by rw [upd_ne (ne_of_none r hp)]; exact r
          rcases hc with e | e
          · rw [e]; exact nch c v q
          · exact nch c' _ e
    refine ⟨.ref s.heap.objs.size, _, I2, rfl, ⟨_, x, y, hp, rfl, rfl, fun zs hz' => by rw [I.list_inj hz' hq1]; exact hx, fun zs hz' => by rw [I.list_inj hz' hq2]; exact hy⟩,
      ⟨he2, (hs2.2 TI D.TIz).trans (hk TI _ D.TIz D.TITO D.TIi1 D.TIi2 hTI), ⟨_, _, (hs2.2 TO D.TOz).trans hTO1⟩, hi1.at fun o q => (hs2.2 i1 D.i1z).trans q, hi2.at fun o q => (hs2.2 i2 D.i2z).trans q⟩, fun c hb => ?_⟩
    have lb : c < s.heap.objs.size := by
      simp only [List.mem_cons, List.not_mem_nil, or_false] at hb
      rcases hb with rfl | rfl | rfl | rfl | rfl
      · exact Heap.lt_size hz
      · exact Heap.lt_size hTI
      · exact Heap.lt_size hTO
      · obtain ⟨_, q, _⟩ := hit1; exact Heap.lt_size q
      · obtain ⟨_, q, _⟩ := hit2; exact Heap.lt_size q
    rw [upd_ne (up c lb)]
    exact (hf c hb).1
  done := by
    intro X hP hw hK hc i pins s σ H E I hf st hg
    subst hP hw hK
    obtain ⟨xs, ys, hq1, hq2, hx⟩ := hg
    obtain ⟨its1, rv1, pl1, hz1⟩ := I.list hq1
    obtain ⟨its2, rv2, pl2, hz2⟩ := I.list hq2
    obtain ⟨hz, hTI, ⟨_, _, hTO⟩, hit1, hit2⟩ := st
    have hl1 := rv1.length
    have hl2 := rv2.length
    refine wpAny_pyNext_zip_end (I.ok.hd hc) D hz hTI hTO hit1 hit2 pl1.isList pl2.isList (by rcases hx with e | e; exact .inl (by simp; omega); exact .inr (by simp; omega)) fun h' eb => ⟨rfl, ?_⟩
    have k2 : ∀ c o, c ∉ [z, TI, TO, i1, i2] → s.heap.get? c = some o → h'.get? c = some o := fun c o hb q => eb c o (fun e => hb (by simp [e])) (fun e => hb (by simp [e])) (fun e => hb (by simp [e])) (fun e => hb (by simp [e])) q
    refine I.step (g' := s.gens) (d' := s.drawn) (t' := s.toks) (ch := [z, TI, TO, i1, i2]) (fun c hb => ?_) (fun c o _ _ hc q _ => k2 c o hc q) (fun c o _ _ hc q _ => ⟨o.slots, k2 c o hc q⟩)
      (fun c o _ q n => n) (fun c o hc q => ⟨o, k2 c o hc q⟩) (fun c ys q => q) (fun c o v q => q) (fun c ps q => ⟨#[], by rw [q]; simp⟩) (fun m hm => ?_) (fun c v q => ?_) I.bare
    · obtain ⟨f0, f1, f2, f3, f4, f5⟩ := hf c hb
      exact ⟨f3, f1, f4, f5⟩
    · obtain ⟨o, es, ep, q, r⟩ := hm
      exact ⟨o, es, ep, k2 _ o (fun e => (hf _ e).2.1 rfl) q, r⟩
    · refine (I.hok c v q).stay (fun c' o hc r => k2 c' o ?_ r) (fun c' r => r) fun c' ys r => r
      have nch : ∀ c u, H c = some u → c ∉ [z, TI, TO, i1, i2] := fun c u q hb => by
        rw [(hf c hb).1] at q; cases q
      rcases hc with e | e
      · rw [e]; exact nch c v q
      · exact nch c' _ e
  self := fun _ _ _ _ _ st h => wpAny_pyIter_zip st.1 h
section
variable {X : Cx}
def iZip (K : PySem.W.Frag) (ta : TA) : TI := fun σ H R => ta σ H fun vs H1 => ∃ a b xs ys, vs = [.ref a, .ref b] ∧ SqL K H1 a xs ∧ SqL K H1 b ys ∧ R (Itz K a b) H1
theorem pi_zip {elts : List Expr} {tk : Nat} {tpos : Pos} {a b : Expr} {ta : TA} {p pos : Pos} (hg : Gl X "zip") (hm : X.mg "zip" = none) (ha : PA X [a, b] ta) (hs : starEach [a, b] X.env = [(false, eval a X.env), (false, eval b X.env)] := by rfl)
    (hs2 : starEach [b] X.env = [(false, eval b X.env)] := by rfl) :
    PI X (.Tuple elts tk tpos) (.Call (.Name "zip" p) [a, b] [] pos) (iZip X.K ta) := by
  intro pins s σ H R I h
  refine Call_ (ld_blt I hg hm boot_zip (PyProof.Rows.callWith_type1 (thn (ha pos pins s σ H _ I h) fun us s1 ⟨vs, H1, I1, r1, q1⟩ => ?_) (by rw [hs, hs2]) (by rw [hs2]; rfl)))
  obtain ⟨a, b, xs, ys, e, hq1, hq2, q⟩ := q1
  subst e
  cases r1 with
  | cons r rr =>
   cases rr with
   | cons r' rr =>
    cases rr
    cases r
    cases r'
    obtain ⟨its1, rv1, pl1, hz1⟩ := I1.list hq1
    obtain ⟨its2, rv2, pl2, hz2⟩ := I1.list hq2
    have a1 : a < s1.heap.objs.size := by obtain ⟨_, e, _⟩ := pl1.isList; exact Heap.lt_size e
    have a2 : b < s1.heap.objs.size := by obtain ⟨_, e, _⟩ := pl2.isList; exact Heap.lt_size e
    refine call_zip_2 pl1.isList pl2.isList fun h1 hz hTI hTO hi1 hi2 hsz hk => ?_
    have I2 : Inv X pins σ H1 { s1 with heap := h1 } := I1.kept (t' := s1.toks) hk
    refine wpAny_pyIter_zip hz ?_
    refine ⟨s1.heap.objs.size + 4, [s1.heap.objs.size + 4, s1.heap.objs.size + 2, s1.heap.objs.size + 3, s1.heap.objs.size, s1.heap.objs.size + 1], _, _, H1, rfl, I2, turn_zip a b _ _ _ _ _ (zipApart_new a1 a2), ⟨hz, hTI, ⟨_, _, hTO⟩, hi1, hi2⟩, fun c hb => ?_, q⟩
    have hb' : s1.heap.objs.size ≤ c := by
      simp only [List.mem_cons, List.not_mem_nil, or_false] at hb
      rcases hb with rfl | rfl | rfl | rfl | rfl <;> omega
    exact I1.fpOk hb' (I1.hok.fresh hb')
end
theorem a_izip {K : PySem.W.Frag} {ta : TA} {σ : St} {H : Hp} {R : It → Hp → Prop} : iZip K ta σ H R = ta σ H fun vs H1 => ∃ a b xs ys, vs = [.ref a, .ref b] ∧ SqL K H1 a xs ∧ SqL K H1 b ys ∧ R (Itz K a b) H1 := rfl
theorem cl_zip {K : PySem.W.Frag} {a b : Addr} {xs ys : List V} {fv : List (Nat × Str)} {te : TE} {Q : VK} {σ : St} {H1 : Hp} {D : Addr} (Pv : Nat → Hp → Prop) (h0 : Pv 0 (upd H1 D (.lst []))) (hl : ∀ i H, i ≤ xs.length → i ≤ ys.length → Pv i H → SqL K H a xs ∧ SqL K H b ys)
    (hs : ∀ i v1 v2 p H, xs[i]? = some v1 → ys[i]? = some v2 → Pv i H → H p = none → te (bst2 fv σ (some v1) (some v2)) (upd H p (.tup [v1, v2])) fun y H2 => ∃ zs, H2 D = some (.lst zs) ∧ zs.length < sizeLine ∧ Pv (i + 1) (upd H2 D (.lst (zs ++ [y]))))
    (hd : ∀ H, Pv (min xs.length ys.length) H → Q (.ref D) H) : CLoop2 K (Itz K a b) fv te Q σ H1 D := by
  refine ⟨fun i m H => m = min xs.length ys.length - i ∧ i ≤ min xs.length ys.length ∧ Pv i H, ⟨_, rfl, Nat.zero_le _, h0⟩, ?_⟩
  rintro i m H ⟨rfl, hi, p⟩
  obtain ⟨q1, q2⟩ := hl i H (by omega) (by omega) p
  by_cases hlt : i < min xs.length ys.length
  · have l1 : i < xs.length := by omega
    have l2 : i < ys.length := by omega
    refine .inr ⟨⟨xs, ys, xs[i], ys[i], q1, q2, List.getElem?_eq_getElem l1, List.getElem?_eq_getElem l2⟩, Pv (i + 1), fun H' p' => ⟨min xs.length ys.length - (i + 1), by omega, rfl, hlt, p'⟩, fun v H' y => ?_⟩
    obtain ⟨pa, x1, x2, hn, e1, e2, y1, y2⟩ := y
    subst e1 e2
    exact ⟨pa, x1, x2, rfl, .inl (.inl upd_same), hs i x1 x2 pa H (y1 xs q1) (y2 ys q2) p hn⟩
  · have e : i = min xs.length ys.length := by omega
    refine .inl ⟨⟨xs, ys, q1, q2, by omega⟩, ?_⟩
    rw [e] at p
    exact hd H p
end L2
namespace L2
open PySem PySem.Spec PyProof.Rows
section
variable {X : Cx}
def ipC (C : Int → Int → Prop) (f : Int → Int → Int) : TIp := fun x y H Q => ∃ i j, x = .int i ∧ y = .int j ∧ C i j ∧ Q (.int (f i j)) H
theorem a_ipC {C : Int → Int → Prop} {f : Int → Int → Int} {x y : V} {H : Hp} {Q : VK} : ipC C f x y H Q = ∃ i j, x = .int i ∧ y = .int j ∧ C i j ∧ Q (.int (f i j)) H := rfl
theorem ip_mulZ : PIp X .Mult (ipC IntMulOk fun i j => i * j) := by
  intro pins s σ H x y v u Q I r1 r2 h
  obtain ⟨i, j, e1, e2, hm, q⟩ := h
  subst e1; subst e2
  obtain ⟨t, rfl⟩ := r1
  obtain ⟨t', rfl⟩ := r2
  exact imul_int ⟨.int _, H, I.tok _, ⟨_, rfl⟩, q⟩ hm
theorem call_sumL (hc : X.calm = true) : CallR X (.builtin "sum") (fun xs H Q => ∃ (p : Addr) (ns : List Int), xs = [.ref p] ∧ SqL X.K H p (ns.map V.int) ∧ Q (.int ns.sum) H) := by
  intro pins s σ H xs us Q I r h
  obtain ⟨p, ns, rfl, hq, q⟩ := h
  obtain ⟨u, rfl, rx⟩ := vals1 r
  cases rx
  obtain ⟨its, r', pl, hz⟩ := I.list hq
  have hi := ints_are r'
  obtain ⟨zs, e⟩ := hi.allInts.items
  have hns : ns = zs.toList.map (·.1) := by rw [← hi.numsOf, ← nums_intItems, ← e]
  have hl := pl.isList
  rw [e] at hl
  refine sum_intListG (I.ok.hd hc) hl fun h' tk t' hk => ?_
  have es : preSum (numAt zs) zs.size = ns.sum := by rw [preSum_eq, hns, List.take_of_length_le (by simp)]
  rw [es]
  exact ⟨.int _, H, I.kept hk, ⟨t', rfl⟩, q⟩
end
section
variable {X : Cx} {elt iter cnd : Expr} {x : Str} {px : Pos} {fv : List (Nat × Str)} {scope : Scope} {cl : List (Str × Addr)} {pos : Pos} {te : TE} {tt : TT} {wi : TI}
theorem ps_setCIf {i : Nat} {y : Str} {py spos : Pos} (hc : X.calm = true) (B : BlkOk X x fv scope cl) (hi : PI X (.Name x px) iter wi) (hcn : ∀ C s H fp, PT (blk X x fv scope cl C s H fp) cnd tt) (he : ∀ C s H fp, PE (blk X x fv scope cl C s H fp) elt te)
    (hN : X.N.Nodup) (hiy : X.N[i]? = some y) (hy : X.env.scope.names.lookup y = some .local)
    (hsw : swapsWith (.ListComp elt [⟨.Name x px, iter, [cnd], 0⟩] scope pos) (some (.Name y py)) spos.line X.env = pure true := by rfl)
    (hs : ∀ v, foldedSetIterable iter X.env v = pure v := by intro _; rfl) :
    PS X (.Assign [.Name y py] (.ListComp elt [⟨.Name x px, iter, [cnd], 0⟩] scope pos) spos) (tAsg (tCompIf fv wi tt te) (gName i)) := by
  intro pins s σ H D I h
  rw [exec_Assign_Name_used _ _ _ _ hsw]
  refine wpAny_bind (wpAny_standAt (wpAny_bind ?_))
  show wpAny _ X.A (do let _ ← comprehension (.ListComp elt [⟨.Name x px, iter, [cnd], 0⟩] scope pos) scope X.env _ (newList []) false (eval iter X.env) (some (assign (.Name y py) X.env))) _ _ s
  refine wpAny_bind (wpAny_mono (wpAny_comprehension_free (use := some (assign (.Name y py) X.env)) (Q := fun _ s' => SP X pins D .next s') rfl hs B.clos B.kind B.names
    (thn (hi pins s σ H _ I h) fun v s1 h1 => thn h1 fun itv s2 h2 => ?_)) (fun _ s' hq => wpAny_pure (wpAny_pure hq)) fun _ _ e => e)
  obtain ⟨it, fp, tn, J, H2, e, I2, T, st2, f2, rd⟩ := h2
  subst e
  refine blk_runIf (Q := fun x H1 => gName i x σ H1 D.nx) (RR := fun acc C => compPost (model X.prog X.w) X.A X.xe (some (assign (.Name y py) X.env)) (fun _ s' => SP X pins D .next s') acc C) hc B hcn he I2 T st2 f2 rd ?_
  intro Dl C s' H' m' I' fC hn q
  show wpAny _ X.A (assign (.Name y py) X.env (.ref Dl)) _ _ _
  refine wpAny_assign_Name (store_ok2 I' hN hiy (.inl hy) (v := .ref Dl) rfl (fun s'' I'' hab => ?_) (.inr hy))
  obtain ⟨a, sb, ha⟩ := hab
  have hCa : C ≠ a := by
    rcases ha with rfl | e
    · exact fC.2.1
    · exact Ne.symm (fC.2.2.2.2.1 _ _ e)
  exact ⟨m', hn.sameBut sb hCa, fun h' sb' => ⟨_, H', I''.turned (t' := s''.toks) (fun b o hb e => (sb'.2 b hb).trans e) fC.1 fC.2.1 fC.2.2.2.1 fC.2.2.2.2.1 fC.2.2.2.2.2, q⟩⟩
end
end L2
namespace L2
open PySem PySem.Spec PyProof.Rows
theorem lp_zip {K : PySem.W.Frag} {a b : Addr} {xs ys : List V} {g : TG} {tb : TS} {D : Ends} {σ : St} {H : Hp} (Pv : Nat → St → Hp → Prop) (h0 : Pv 0 σ H) (hl : ∀ i σ H, i ≤ xs.length → i ≤ ys.length → Pv i σ H → SqL K H a xs ∧ SqL K H b ys)
    (hs : ∀ i v1 v2 p σ H, xs[i]? = some v1 → ys[i]? = some v2 → Pv i σ H → H p = none → g (.ref p) σ (upd H p (.tup [v1, v2])) fun σ2 H2 => tb { D with nx := Pv (i + 1), ct := Pv (i + 1), bk := D.nx } σ2 H2)
    (hd : ∀ σ H, Pv (min xs.length ys.length) σ H → D.nx σ H) : Loop (Itz K a b) g tb D σ H := by
  refine ⟨fun i m σ H => m = min xs.length ys.length - i ∧ i ≤ min xs.length ys.length ∧ Pv i σ H, ⟨_, rfl, Nat.zero_le _, h0⟩, ?_⟩
  rintro i m σ H ⟨rfl, hi, p⟩
  obtain ⟨q1, q2⟩ := hl i σ H (by omega) (by omega) p
  by_cases hlt : i < min xs.length ys.length
  · have l1 : i < xs.length := by omega
    have l2 : i < ys.length := by omega
    refine .inr ⟨⟨xs, ys, xs[i], ys[i], q1, q2, List.getElem?_eq_getElem l1, List.getElem?_eq_getElem l2⟩, Pv (i + 1), fun σ' H' p' => ⟨min xs.length ys.length - (i + 1), by omega, rfl, hlt, p'⟩, fun x H' y => ?_⟩
    obtain ⟨pa, x1, x2, hn, e1, e2, y1, y2⟩ := y
    subst e1 e2
    exact hs i x1 x2 pa σ H (y1 xs q1) (y2 ys q2) p hn
  · have e : i = min xs.length ys.length := by omega
    rw [e] at p
    exact .inl ⟨⟨xs, ys, q1, q2, by omega⟩, hd σ H p⟩
end L2
namespace L2
open PySem PySem.Spec PyProof.Rows
section
variable {prog : Program} {w : World} {A : Around} {R : Result → Shared → Prop} {I S : Addr} {fp wr : List Addr} {n : Nat} {P : Nat → Value → Prop} {St : Nat → Heap → Prop} {bt : Nat → Nat → Bool} {d : List (Str × Value)}
end
def tMaxD (K : PySem.W.Frag) (t tk : TA) : TE := fun σ H Q => t σ H fun vs H1 => tk σ H1 fun zs H2 => ∃ p ns d, vs = [.ref p] ∧ zs = [.int d] ∧ SqL K H2 p (ns.map V.int) ∧ ∀ M, (ns = [] ∧ M = d) ∨ (M ∈ ns ∧ ∀ a ∈ ns, a ≤ M) → Q (.int M) H2
theorem a_maxD {K : PySem.W.Frag} {t tk : TA} {σ : St} {H : Hp} {Q : VK} : tMaxD K t tk σ H Q = t σ H fun vs H1 => tk σ H1 fun zs H2 => ∃ p ns d, vs = [.ref p] ∧ zs = [.int d] ∧ SqL K H2 p (ns.map V.int) ∧ ∀ M, (ns = [] ∧ M = d) ∨ (M ∈ ns ∧ ∀ a ∈ ns, a ≤ M) → Q (.int M) H2 := rfl
theorem a_inS {K : PySem.W.Frag} {neg : Bool} {x y : V} {H : Hp} {Q : VK} : rIn K neg x y H Q = ∃ p xs, y = .ref p ∧ (SqL K H p xs ∨ SqT K H p xs) ∧ flatV x = true ∧ xs.all flatV = true ∧ Q (.bl (if neg then !inV x xs else inV x xs)) H := rfl
end L2
namespace L2
open PySem PySem.Spec PyProof.Rows
section
variable {X : Cx} {k : Nat} {f C : Addr} {fd : FuncData} {ps : List Str} {sp : Sp} {m : Str} {pos apos : Pos} {o e : Expr} {es : List Expr} {ta : TE} {t : TA}
end
section
variable {K : PySem.W.Frag} {C : Addr} {m f : Str} {sp : Sp} {dvs : List V} {E : XK} {ta tv : TE} {t : TA} {σ : St} {H : Hp} {Q : VK} {D : Ends}
theorem a_fld : tFld K ta f σ H Q = ta σ H fun x H1 => ∃ a C dx fs v, x = .ref a ∧ H1 a = some (.ins C dx fs) ∧ Cls K C ∧ NoAttr K C f ∧ fs.lookup f = some v ∧ Q v H1 := rfl
theorem a_sfld : sFld K ta tv f D σ H = tv σ H fun y H1 => ta σ H1 fun x H2 => ∃ a C dx fs, x = .ref a ∧ H2 a = some (.ins C dx fs) ∧ Cls K C ∧ NoAttr K C f ∧ fs.length < 1000 ∧ D.nx σ (upd H2 a (.ins C dx (putF f y fs))) := rfl
theorem a_meth : tMeth C m sp dvs E ta t σ H Q = ta σ H fun x H1 => ∃ a dx fs, x = .ref a ∧ H1 a = some (.ins C dx fs) ∧ fs.lookup m = none ∧ t σ H1 fun vs H2 => sp (x :: (vs ++ dvs)) H2 Q E := rfl
theorem a_make : tMake C sp dvs E t σ H Q = t σ H fun vs H1 => ∀ x dx, H1 x = none → H1 dx = none → dx ≠ x → sp (.ref x :: (vs ++ dvs)) (upd (upd H1 dx (.own x)) x (.ins C dx [])) (fun v H2 => v = .non ∧ Q (.ref x) H2) E := rfl
end
end L2
namespace L2
open PySem PySem.Spec PyProof.Rows
section
variable {prog : Program} {w : World} {A : Around} {E : Value → Shared → Prop} {s : Shared}
theorem nxT_item {it t : Addr} {i : Nat} {items : Array Value} {x : Value} {Q : Value → Shared → Prop} (hit : s.heap.IsTupleIter it t i) (ht : s.heap.IsTuple t items) (hx : items[i]? = some x)
    (hQ : ∀ h', h'.IsTupleIter it t (i + 1) → Heap.SameBut it s.heap h' → Q x { s with heap := h' }) : wpAny (model prog w) A (Builtin.SmallTypes.nextOf (.ref it)) Q E s := by
  have ⟨o, ho, hc, hd⟩ := hit
  have ⟨ol, hol, _, nl, hdl⟩ := ht
  refine wpAny_bind (wpAny_callSpecial?_slot (name := Str.ofString "__next__") hit.typeIs F.slot_tuple_iterator_next (wpAny_call_entry F.slot_tuple_iterator_next hit.typeIs F.entry_tuple_iterator_next ?_ (F.args_tuple_iterator_next_1 _)))
  refine wpAny_bind (m := field (.ref it) 0) (wpAny_field ho hd (x := .ref t) rfl ?_)
  refine wpAny_bind (m := field (.ref it) 1) (wpAny_field ho hd (x := .int i 0) rfl ?_)
  refine wpAny_bind (m := seqItems? (.ref t)) (wpAny_seqItems hol hdl ?_)
  simp only [Int.toNat_natCast, hx]
  refine wpAny_bind (wpAny_setField ho hd (by simp) (wpAny_pure ⟨x, rfl, wpAny_pure (hQ _ ⟨_, Heap.get?_update_self _ ho (Obj.isFreed_of_fields (Obj.data_mapFields hd _)), (Obj.cls_mapFields ..).trans hc, ?_⟩ (Heap.SameBut.update ..))⟩))
  rw [Obj.data_mapFields hd]; simp [rawInt]
theorem nxT_end {it t : Addr} {i : Nat} {items : Array Value} {Q : Value → Shared → Prop} (hh : A.handled = none) (hit : s.heap.IsTupleIter it t i) (ht : s.heap.IsTuple t items) (hx : items[i]? = none)
    (hE : ∀ h' e, Heap.ExtBut it s.heap h' → (∃ o, h'.get? e = some o ∧ o.cls = .type "StopIteration") → E (.ref e) { s with heap := h' }) : wpAny (model prog w) A (Builtin.SmallTypes.nextOf (.ref it)) Q E s := by
  have ⟨o, ho, hc, hd⟩ := hit
  have ⟨ol, hol, _, nl, hdl⟩ := ht
  refine wpAny_bind (wpAny_callSpecial?_slot (name := Str.ofString "__next__") hit.typeIs F.slot_tuple_iterator_next (wpAny_call_entry F.slot_tuple_iterator_next hit.typeIs F.entry_tuple_iterator_next ?_ (F.args_tuple_iterator_next_1 _)))
  refine wpAny_bind (m := field (.ref it) 0) (wpAny_field ho hd (x := .ref t) rfl ?_)
  refine wpAny_bind (m := field (.ref it) 1) (wpAny_field ho hd (x := .int i 0) rfl ?_)
  refine wpAny_bind (m := seqItems? (.ref t)) (wpAny_seqItems hol hdl ?_)
  simp only [Int.toNat_natCast, hx]
  refine wpAny_bind (wpAny_rule (wpAny_bind (wpAny_setField ho hd (by simp) (wpAny_bind (m := newExc (.type "StopIteration") []) ?_))))
  simp only [newExc, newTuple]
  refine wpAny_bind (wpAny_newObj_type (wpAny_bind (m := firstArgMember _ _) (wpAny_of_eq (a := Value.none) (by first | rfl | (simp only [firstArgMember]; rfl)) (wpAny_newObj_type ?_ (by size_fits)))) (by size_fits))
  simp only [raiseNew]
  refine wpAny_bind (wpAny_handled ?_)
  first | rw [show A.in1.handled = none from hh] | rw [hh]
  exact wpAny_bind (wpAny_pure (wpAny_throw (hE _ _ (((Heap.SameBut.update ..).extBut.push _).push _) ⟨_, Heap.get?_push_size _ rfl, rfl⟩)))
theorem zipT_item {z TI TO i1 i2 l1 l2 : Addr} {k : Nat} {xs ys : Array Value} {x y a b : Value} {Q : Value → Shared → Prop} (D : ZipApart z TI TO i1 i2 l1 l2)
    (hz : IsZip s.heap z TI TO .none) (hTI : IsPair s.heap TI (.ref i1) (.ref i2)) (hTO : IsPair s.heap TO a b) (h1 : s.heap.IsTupleIter i1 l1 k) (h2 : s.heap.IsTupleIter i2 l2 k) (t1 : s.heap.IsTuple l1 xs) (t2 : s.heap.IsTuple l2 ys) (hx : xs[k]? = some x) (hy : ys[k]? = some y)
    (hQ : ∀ h', IsZip h' z TI TO (rawInt s.heap.objs.size) → IsPair h' TO x y → h'.IsTupleIter i1 l1 (k + 1) → h'.IsTupleIter i2 l2 (k + 1) → IsPair h' s.heap.objs.size x y →
      (∀ c o, c ∉ [z, TO, i1, i2] → s.heap.get? c = some o → h'.get? c = some o) → Q (.ref s.heap.objs.size) { s with heap := h' }) :
    wpAny (model prog w) A (Builtin.«zip.__next__» ⟨[.ref z], []⟩) (fun fin s' => ∃ v, fin = .done (.ret v) ∧ Q v s') E s := by
  refine wpAny_bind (m := field (.ref z) 2) (wpAny_field hz rfl (x := .bool false) rfl ?_)
  refine wpAny_bind (m := field (.ref z) 3) (wpAny_field hz rfl (x := .ref TI) rfl (wpAny_bind (wpAny_seqItems hTI rfl ?_)))
  refine wpAny_bind (m := Builtin.SmallTypes.ownedTupleIsFree (.ref z)) (wpAny_bind (m := field (.ref z) 0) (wpAny_field hz rfl (x := .none) rfl (wpAny_pure ?_)))
  simp only [if_true]
  refine wpAny_bind (wpAny_rule (wpAny_bind (wpAny_field hz rfl (x := .ref TO) rfl (wpAny_bind (wpAny_setField_rec hz (by simp) fun g₁ z₁ c₁ => wpAny_bind ?_)))))
  replace z₁ : IsZip g₁ z TI TO .ellipsis := z₁
  simp only [List.zipIdx_cons, List.zipIdx_nil, List.forIn_cons, List.forIn_nil]
  have b₁ := c₁.extBut
  refine wpAny_bind (wpAny_bind (wpAny_onRaise (wpAny_bind (m := Builtin.SmallTypes.nextOf (.ref i1)) (nxT_item (h1.extBut b₁ D.i1z) (t1.extBut b₁ D.l1z) hx fun g₂ j₂ c₂ => wpAny_pure ?_))))
  have b₂ := c₂.extBut
  have o₂ : IsPair g₂ TO a b := b₂ _ _ D.TOi1 (b₁ _ _ D.TOz hTO)
  refine wpAny_bind (wpAny_seqItems o₂ rfl (wpAny_bind (wpAny_updateSeq_pair o₂ fun g₃ o₃ c₃ => wpAny_bind (wpAny_letGo (wpAny_pure ?_)))))
  replace o₃ : IsPair g₃ TO x b := o₃
  have b₃ := c₃.extBut
  have e2 : ∀ c o, c ≠ z → c ≠ i1 → c ≠ TO → s.heap.get? c = some o → g₃.get? c = some o := fun c o n1 n2 n3 e => b₃ _ _ n3 (b₂ _ _ n2 (b₁ _ _ n1 e))
  refine wpAny_bind (wpAny_bind (wpAny_onRaise (wpAny_bind (m := Builtin.SmallTypes.nextOf (.ref i2)) (nxT_item (s := { s with heap := g₃ }) (h2.at fun o e => e2 _ o D.i2z D.i12.symm D.TOi2.symm e) (t2.at fun o e => e2 _ o D.l2z D.l2i1 D.l2TO e) hy fun g₄ j₄ c₄ => wpAny_pure ?_))))
  have b₄ := c₄.extBut
  have o₄ : IsPair g₄ TO x b := b₄ _ _ D.TOi2 o₃
  refine wpAny_bind (wpAny_seqItems o₄ rfl (wpAny_bind (wpAny_updateSeq_pair o₄ fun g₅ o₅ c₅ => wpAny_bind (wpAny_letGo (wpAny_pure (wpAny_pure (wpAny_bind ?_)))))))
  replace o₅ : IsPair g₅ TO x y := o₅
  have b₅ := c₅.extBut
  refine wpAny_seqItems o₅ rfl (wpAny_bind (wpAny_newTuple ?_))
  have sz : g₅.objs.size = s.heap.objs.size := by rw [c₅.1, c₄.1, c₃.1, c₂.1, c₁.1]
  have z₅ : IsZip g₅ z TI TO .ellipsis := b₅ _ _ D.TOz.symm (b₄ _ _ D.i2z.symm (b₃ _ _ D.TOz.symm (b₂ _ _ D.i1z.symm z₁)))
  have j₁ : g₅.IsTupleIter i1 l1 (k + 1) := j₂.at fun o e => b₅ _ _ D.TOi1.symm (b₄ _ _ D.i12 (b₃ _ _ D.TOi1.symm e))
  have j₅ : g₅.IsTupleIter i2 l2 (k + 1) := j₄.at fun o e => b₅ _ _ D.TOi2.symm e
  have lz : z < g₅.objs.size := Heap.lt_size z₅
  refine wpAny_bind (m := Builtin.SmallTypes.ownedTupleHandOut (.ref z) (.ref g₅.objs.size)) (wpAny_bind (wpAny_setField_rec (Heap.get?_push_of_some _ z₅) (by simp) fun g₇ z₇ c₇ => ?_))
  replace z₇ : IsZip g₇ z TI TO (rawInt g₅.objs.size) := z₇
  refine wpAny_setField_rec z₇ (by simp) fun g₈ z₈ c₈ => ?_
  replace z₈ : IsZip g₈ z TI TO (rawInt g₅.objs.size) := z₈
  have up : ∀ c o, c ≠ z → (g₅.push { cls := .type "tuple", data := .seq #[x, y] }).get? c = some o → g₈.get? c = some o := fun c o n e => c₈.extBut _ _ n (c₇.extBut _ _ n e)
  have T₈ : IsPair g₈ g₅.objs.size x y := up _ _ (Nat.ne_of_gt lz) (Heap.get?_push_size _ rfl)
  have up5 : ∀ c o, c ≠ z → g₅.get? c = some o → g₈.get? c = some o := fun c o n e => up c o n (Heap.get?_push_of_some _ e)
  refine wpAny_pure ⟨_, rfl, ?_⟩
  show Q (.ref g₅.objs.size) _
  rw [sz] at z₈ T₈ ⊢
  refine hQ g₈ z₈ (up5 _ _ D.TOz o₅) (j₁.at fun o e => up5 _ o D.i1z e) (j₅.at fun o e => up5 _ o D.i2z e) T₈ fun c o hc e => ?_
  have n1 : c ≠ z := fun h => hc (by simp [h])
  have n2 : c ≠ TO := fun h => hc (by simp [h])
  have n3 : c ≠ i1 := fun h => hc (by simp [h])
  have n4 : c ≠ i2 := fun h => hc (by simp [h])
  exact up5 c o n1 (b₅ _ _ n2 (b₄ _ _ n4 (e2 c o n1 n3 n2 e)))
theorem zipT_end {z TI TO i1 i2 l1 l2 : Addr} {k : Nat} {xs ys : Array Value} {a b : Value} {Q : Fin → Shared → Prop} (hh : A.handled = none) (D : ZipApart z TI TO i1 i2 l1 l2)
    (hz : IsZip s.heap z TI TO .none) (hTI : IsPair s.heap TI (.ref i1) (.ref i2)) (hTO : IsPair s.heap TO a b) (h1 : s.heap.IsTupleIter i1 l1 k) (h2 : s.heap.IsTupleIter i2 l2 k) (t1 : s.heap.IsTuple l1 xs) (t2 : s.heap.IsTuple l2 ys) (hx : xs[k]? = none ∨ ys[k]? = none)
    (hE : ∀ h' e, (∀ c o, c ∉ [z, TO, i1, i2] → s.heap.get? c = some o → h'.get? c = some o) → (∃ o, h'.get? e = some o ∧ o.cls = .type "StopIteration") → E (.ref e) { s with heap := h' }) :
    wpAny (model prog w) A (Builtin.«zip.__next__» ⟨[.ref z], []⟩) Q E s := by
  refine wpAny_bind (m := field (.ref z) 2) (wpAny_field hz rfl (x := .bool false) rfl ?_)
  refine wpAny_bind (m := field (.ref z) 3) (wpAny_field hz rfl (x := .ref TI) rfl (wpAny_bind (wpAny_seqItems hTI rfl ?_)))
  refine wpAny_bind (m := Builtin.SmallTypes.ownedTupleIsFree (.ref z)) (wpAny_bind (m := field (.ref z) 0) (wpAny_field hz rfl (x := .none) rfl (wpAny_pure ?_)))
  simp only [if_true]
  refine wpAny_bind (wpAny_rule (wpAny_bind (wpAny_field hz rfl (x := .ref TO) rfl (wpAny_bind (wpAny_setField_rec hz (by simp) fun g₁ z₁ c₁ => wpAny_bind ?_)))))
  replace z₁ : IsZip g₁ z TI TO .ellipsis := z₁
  simp only [List.zipIdx_cons, List.zipIdx_nil, List.forIn_cons, List.forIn_nil]
  have b₁ := c₁.extBut
  have nz : ∀ {g : Heap} {e : Addr} {o : Obj}, IsZip g z TI TO .ellipsis → g.get? e = some o → o.cls = .type "StopIteration" → e ≠ z := fun {g e o} q r c h => by
    subst h
    rw [q] at r; cases r; simp at c
  cases hx1 : xs[k]? with
  | none =>
    refine wpAny_bind (wpAny_bind (wpAny_onRaise (wpAny_bind (m := Builtin.SmallTypes.nextOf (.ref i1)) (nxT_end hh (h1.extBut b₁ D.i1z) (t1.extBut b₁ D.l1z) hx1 fun g₂ e b₂ ⟨oe, he, ce⟩ => ?_))))
    have z₂ : IsZip g₂ z TI TO .ellipsis := b₂ _ _ D.i1z.symm z₁
    refine wpAny_setField_rec z₂ (by simp) fun g₃ _ c₃ => hE g₃ e (fun c o hc q => ?_) ⟨oe, c₃.extBut _ _ (nz z₂ he ce) he, ce⟩
    exact c₃.extBut _ _ (fun h => hc (by simp [h])) (b₂ _ _ (fun h => hc (by simp [h])) (b₁ _ _ (fun h => hc (by simp [h])) q))
  | some x =>
    have hy : ys[k]? = none := hx.resolve_left (by rw [hx1]; exact fun h => nomatch h)
    refine wpAny_bind (wpAny_bind (wpAny_onRaise (wpAny_bind (m := Builtin.SmallTypes.nextOf (.ref i1)) (nxT_item (h1.extBut b₁ D.i1z) (t1.extBut b₁ D.l1z) hx1 fun g₂ j₂ c₂ => wpAny_pure ?_))))
    have b₂ := c₂.extBut
    have o₂ : IsPair g₂ TO a b := b₂ _ _ D.TOi1 (b₁ _ _ D.TOz hTO)
    refine wpAny_bind (wpAny_seqItems o₂ rfl (wpAny_bind (wpAny_updateSeq_pair o₂ fun g₃ o₃ c₃ => wpAny_bind (wpAny_letGo (wpAny_pure ?_)))))
    have b₃ := c₃.extBut
    have e2 : ∀ c o, c ≠ z → c ≠ i1 → c ≠ TO → s.heap.get? c = some o → g₃.get? c = some o := fun c o n1 n2 n3 e => b₃ _ _ n3 (b₂ _ _ n2 (b₁ _ _ n1 e))
    refine wpAny_bind (wpAny_bind (wpAny_onRaise (wpAny_bind (m := Builtin.SmallTypes.nextOf (.ref i2)) (nxT_end (s := { s with heap := g₃ }) hh (h2.at fun o e => e2 _ o D.i2z D.i12.symm D.TOi2.symm e) (t2.at fun o e => e2 _ o D.l2z D.l2i1 D.l2TO e) hy fun g₄ e b₄ ⟨oe, he, ce⟩ => ?_))))
    have z₄ : IsZip g₄ z TI TO .ellipsis := b₄ _ _ D.i2z.symm (b₃ _ _ D.TOz.symm (b₂ _ _ D.i1z.symm z₁))
    refine wpAny_setField_rec z₄ (by simp) fun g₅ _ c₅ => hE g₅ e (fun c o hc q => ?_) ⟨oe, c₅.extBut _ _ (nz z₄ he ce) he, ce⟩
    exact c₅.extBut _ _ (fun h => hc (by simp [h])) (b₄ _ _ (fun h => hc (by simp [h])) (e2 c o (fun h => hc (by simp [h])) (fun h => hc (by simp [h])) (fun h => hc (by simp [h])) q))
theorem pyNext_zipT {z TI TO i1 i2 l1 l2 : Addr} {k : Nat} {xs ys : Array Value} {x y a b : Value} {Q : Option Value → Shared → Prop} (D : ZipApart z TI TO i1 i2 l1 l2)
    (hz : IsZip s.heap z TI TO .none) (hTI : IsPair s.heap TI (.ref i1) (.ref i2)) (hTO : IsPair s.heap TO a b) (h1 : s.heap.IsTupleIter i1 l1 k) (h2 : s.heap.IsTupleIter i2 l2 k) (t1 : s.heap.IsTuple l1 xs) (t2 : s.heap.IsTuple l2 ys) (hx : xs[k]? = some x) (hy : ys[k]? = some y)
    (hQ : ∀ h', IsZip h' z TI TO (rawInt s.heap.objs.size) → IsPair h' TO x y → h'.IsTupleIter i1 l1 (k + 1) → h'.IsTupleIter i2 l2 (k + 1) → IsPair h' s.heap.objs.size x y →
      (∀ c o, c ∉ [z, TO, i1, i2] → s.heap.get? c = some o → h'.get? c = some o) → Q (some (.ref s.heap.objs.size)) { s with heap := h' }) : wpAny (model prog w) A (pyNext (.ref z)) Q E s := by
  have hT : s.TypeIs (.ref z) "zip" := ⟨_, hz, rfl⟩
  exact wpAny_bind (wpAny_attempt (wpAny_callSpecial?_slot (name := Str.ofString "__next__") hT F.slot_zip_next (wpAny_call_entry F.slot_zip_next hT F.entry_zip_next
    (zipT_item D hz hTI hTO h1 h2 t1 t2 hx hy fun h' a1 a2 a3 a4 a5 a6 => wpAny_pure (hQ h' a1 a2 a3 a4 a5 a6)) (F.args_zip_next_1 _))))
theorem pyNext_zipTEnd {z TI TO i1 i2 l1 l2 : Addr} {k : Nat} {xs ys : Array Value} {a b : Value} {Q : Option Value → Shared → Prop} (hh : A.handled = none) (D : ZipApart z TI TO i1 i2 l1 l2)
    (hz : IsZip s.heap z TI TO .none) (hTI : IsPair s.heap TI (.ref i1) (.ref i2)) (hTO : IsPair s.heap TO a b) (h1 : s.heap.IsTupleIter i1 l1 k) (h2 : s.heap.IsTupleIter i2 l2 k) (t1 : s.heap.IsTuple l1 xs) (t2 : s.heap.IsTuple l2 ys) (hx : xs[k]? = none ∨ ys[k]? = none)
    (hQ : ∀ h', (∀ c o, c ∉ [z, TO, i1, i2] → s.heap.get? c = some o → h'.get? c = some o) → Q none { s with heap := h' }) : wpAny (model prog w) A (pyNext (.ref z)) Q E s := by
  have hT : s.TypeIs (.ref z) "zip" := ⟨_, hz, rfl⟩
  refine wpAny_bind (wpAny_attempt (wpAny_callSpecial?_slot (name := Str.ofString "__next__") hT F.slot_zip_next (wpAny_call_entry F.slot_zip_next hT F.entry_zip_next (zipT_end hh D hz hTI hTO h1 h2 t1 t2 hx fun h' e hk ⟨o, ho, hc⟩ => ?_) (F.args_zip_next_1 _))))
  exact wpAny_bind (wpAny_isInstance (T := "StopIteration") (b := true) ⟨o, ho, hc⟩ isSubtype_stop (wpAny_pure (hQ _ hk)))
end
def zpT (h : Heap) (a b : Addr) : Heap :=
  ((((h.push { cls := .type "tuple_iterator", data := .fields #[.ref a, .int 0 0] }).push { cls := .type "tuple_iterator", data := .fields #[.ref b, .int 0 0] }).push { cls := .type "tuple", data := .seq #[.ref h.objs.size, .ref (h.push { cls := .type "tuple_iterator", data := .fields #[.ref a, .int 0 0] }).objs.size] }).push { cls := .type "tuple", data := .seq #[.none, .none] }).push
    { cls := .type "zip", data := .fields #[.none, .bool false, .bool false, .ref ((h.push { cls := .type "tuple_iterator", data := .fields #[.ref a, .int 0 0] }).push { cls := .type "tuple_iterator", data := .fields #[.ref b, .int 0 0] }).objs.size,
      .ref (((h.push { cls := .type "tuple_iterator", data := .fields #[.ref a, .int 0 0] }).push { cls := .type "tuple_iterator", data := .fields #[.ref b, .int 0 0] }).push { cls := .type "tuple", data := .seq #[.ref h.objs.size, .ref (h.push { cls := .type "tuple_iterator", data := .fields #[.ref a, .int 0 0] }).objs.size] }).objs.size] }
theorem zpT_size (h : Heap) (a b : Addr) : (zpT h a b).objs.size = h.objs.size + 5 := by unfold zpT; rw [Heap.size_push, Heap.size_push, Heap.size_push, Heap.size_push, Heap.size_push]
theorem meetsT (l1 l2 : Addr) (xs ys : Array Value) : Meets (Builtin.«zip.__new__» ⟨[.type "zip", .ref l1, .ref l2], []⟩) (fun _ R s => s.heap.IsTuple l1 xs ∧ s.heap.IsTuple l2 ys ∧ R (.ok (.ret (.ref (s.heap.objs.size + 4)))) { s with heap := zpT s.heap l1 l2 }) :=
  .of_wp fun prog w A R s h => by
    obtain ⟨hp, g, d, tk, os⟩ := s
    obtain ⟨q1, q2, h⟩ := h
    have hsub := sub_zip
    have k1 : Heap.IsTuple (Shared.heap ⟨hp, g, d, tk, os⟩) l1 xs := q1
    have k2 : Heap.IsTuple (Shared.heap ⟨hp.push { cls := .type "tuple_iterator", data := .fields #[.ref l1, .int 0 0] }, g, d, tk, os⟩) l2 ys := Heap.IsTuple.push q2 _
    wp_walk using wpAny_pyIter_tuple k1, wpAny_pyIter_tuple k2
    refine ⟨_, rfl, ?_⟩
    have e : (zpT hp l1 l2).objs.size = hp.objs.size + 5 := zpT_size hp l1 l2
    unfold zpT at e h
    rw [Heap.size_push] at e
    have e4 := Nat.succ.inj e
    rw [← e4] at h
    exact h
section
variable {prog : Program} {w : World} {A : Around} {E : Value → Shared → Prop} {s : Shared}
theorem call_zipT {l1 l2 : Addr} {xs ys : Array Value} {Q : Value → Shared → Prop} (q1 : s.heap.IsTuple l1 xs) (q2 : s.heap.IsTuple l2 ys)
    (h : ∀ h', IsZip h' (s.heap.objs.size + 4) (s.heap.objs.size + 2) (s.heap.objs.size + 3) .none → IsPair h' (s.heap.objs.size + 2) (.ref s.heap.objs.size) (.ref (s.heap.objs.size + 1)) →
      IsPair h' (s.heap.objs.size + 3) .none .none → h'.IsTupleIter s.heap.objs.size l1 0 → h'.IsTupleIter (s.heap.objs.size + 1) l2 0 → (∀ c o, s.heap.get? c = some o → h'.get? c = some o) → Q (.ref (s.heap.objs.size + 4)) { s with heap := h' }) :
    wpAny (model prog w) A (call (.type "zip") [.ref l1, .ref l2]) Q E s := by
  refine callType_new F.called_zip (by decide) (F.typeCall_zip_2 _ _) (F.newCall_zip_2 _ _) (fun obj => F.args_object_init_3 obj _ _) F.entry_zip_new (meetsT l1 l2 xs ys) ⟨q1, q2, ?_⟩
  obtain ⟨H1, e1⟩ : ∃ H1, H1 = s.heap.push { cls := .type "tuple_iterator", data := .fields #[.ref l1, .int 0 0] } := ⟨_, rfl⟩
  obtain ⟨H2, e2⟩ : ∃ H2, H2 = H1.push { cls := .type "tuple_iterator", data := .fields #[.ref l2, .int 0 0] } := ⟨_, rfl⟩
  obtain ⟨H3, e3⟩ : ∃ H3, H3 = H2.push { cls := .type "tuple", data := .seq #[.ref s.heap.objs.size, .ref H1.objs.size] } := ⟨_, rfl⟩
  obtain ⟨H4, e4⟩ : ∃ H4, H4 = H3.push { cls := .type "tuple", data := .seq #[.none, .none] } := ⟨_, rfl⟩
  have e5 : zpT s.heap l1 l2 = H4.push { cls := .type "zip", data := .fields #[.none, .bool false, .bool false, .ref H2.objs.size, .ref H3.objs.size] } := by subst e4 e3 e2 e1; rfl
  have z1 : H1.objs.size = s.heap.objs.size + 1 := by rw [e1, Heap.size_push]
  have z2 : H2.objs.size = s.heap.objs.size + 2 := by rw [e2, Heap.size_push, z1]
  have z3 : H3.objs.size = s.heap.objs.size + 3 := by rw [e3, Heap.size_push, z2]
  have z4 : H4.objs.size = s.heap.objs.size + 4 := by rw [e4, Heap.size_push, z3]
  have g1 : H1.get? s.heap.objs.size = some { cls := .type "tuple_iterator", data := .fields #[.ref l1, .int 0 0] } := by rw [e1]; exact Heap.get?_push_size _ rfl
  have g2 : H2.get? H1.objs.size = some { cls := .type "tuple_iterator", data := .fields #[.ref l2, .int 0 0] } := by rw [e2]; exact Heap.get?_push_size _ rfl
  have g3 : H3.get? H2.objs.size = some { cls := .type "tuple", data := .seq #[.ref s.heap.objs.size, .ref H1.objs.size] } := by rw [e3]; exact Heap.get?_push_size _ rfl
  have g4 : H4.get? H3.objs.size = some { cls := .type "tuple", data := .seq #[.none, .none] } := by rw [e4]; exact Heap.get?_push_size _ rfl
  have u2 : ∀ c o, H1.get? c = some o → H2.get? c = some o := fun c o e => by rw [e2]; exact Heap.get?_push_of_some _ e
  have u3 : ∀ c o, H2.get? c = some o → H3.get? c = some o := fun c o e => by rw [e3]; exact Heap.get?_push_of_some _ e
  have u4 : ∀ c o, H3.get? c = some o → H4.get? c = some o := fun c o e => by rw [e4]; exact Heap.get?_push_of_some _ e
  have u5 : ∀ c o, H4.get? c = some o → (zpT s.heap l1 l2).get? c = some o := fun c o e => by rw [e5]; exact Heap.get?_push_of_some _ e
  have g5 : (zpT s.heap l1 l2).get? H4.objs.size = some { cls := .type "zip", data := .fields #[.none, .bool false, .bool false, .ref H2.objs.size, .ref H3.objs.size] } := by rw [e5]; exact Heap.get?_push_size _ rfl
  have f1 := u5 _ _ (u4 _ _ (u3 _ _ (u2 _ _ g1)))
  have f2 := u5 _ _ (u4 _ _ (u3 _ _ g2))
  have f3 := u5 _ _ (u4 _ _ g3)
  have f4 := u5 _ _ g4
  rw [z4, z2, z3] at g5
  rw [z1] at f2
  rw [z2, z1] at f3
  rw [z3] at f4
  exact ⟨⟨_, g5, rfl⟩, h _ g5 f3 f4 ⟨_, f1, rfl, rfl⟩ ⟨_, f2, rfl, rfl⟩ fun c o x => u5 _ _ (u4 _ _ (u3 _ _ (u2 _ _ (by rw [e1]; exact Heap.get?_push_of_some _ x))))⟩
end
def ItzT (K : PySem.W.Frag) (a b : Addr) : It :=
  ⟨fun i H => ∃ xs ys x y, SqT K H a xs ∧ SqT K H b ys ∧ xs[i]? = some x ∧ ys[i]? = some y, fun i H v H' => ∃ p x y, H p = none ∧ v = .ref p ∧ H' = upd H p (.tup [x, y]) ∧ (∀ xs, SqT K H a xs → xs[i]? = some x) ∧ ∀ ys, SqT K H b ys → ys[i]? = some y,
    fun i H => ∃ xs ys, SqT K H a xs ∧ SqT K H b ys ∧ (xs.length ≤ i ∨ ys.length ≤ i)⟩
theorem turn_zipT {P : Program} {w : World} {K : PySem.W.Frag} {elts : List Expr} {tk : Nat} {tpos : Pos} (a b z TI TO i1 i2 : Addr) (D : ZipApart z TI TO i1 i2 a b) :
    Turn P w K (.Tuple elts tk tpos) (ItzT K a b) [z, TI, TO, i1, i2] z (fun i h => IsZip h z TI TO .none ∧ IsPair h TI (.ref i1) (.ref i2) ∧ (∃ u v, IsPair h TO u v) ∧ h.IsTupleIter i1 a i ∧ h.IsTupleIter i2 b i) where
  mem := by simp
  obj := fun i h st c hb => by
    obtain ⟨hz, hTI, ⟨u, v, hTO⟩, ⟨o1, e1, c1, d1⟩, ⟨o2, e2, c2, d2⟩⟩ := st
    simp only [List.mem_cons, List.not_mem_nil, or_false] at hb
    rcases hb with rfl | rfl | rfl | rfl | rfl
    · exact ⟨_, hz, fun v z => by
        have z' : Data.fields _ = Data.cell v := z
        cases z'⟩
    · exact ⟨_, hTI, fun v z => by
        have z' : Data.seq _ = Data.cell v := z
        cases z'⟩
    · exact ⟨_, hTO, fun v z => by
        have z' : Data.seq _ = Data.cell v := z
        cases z'⟩
    · exact ⟨o1, e1, fun v z => by rw [d1] at z; cases z⟩
    · exact ⟨o2, e2, fun v z => by rw [d2] at z; cases z⟩
  keep := fun i h h' st k => by
    obtain ⟨hz, hTI, ⟨u, v, hTO⟩, h1, h2⟩ := st
    exact ⟨k z (by simp) _ hz, k TI (by simp) _ hTI, ⟨u, v, k TO (by simp) _ hTO⟩, h1.at fun o q => k i1 (by simp) o q, h2.at fun o q => k i2 (by simp) o q⟩
  item := by
    intro X hP hw hK hc i pins s σ H E I hf st hg
    subst hP hw hK
    obtain ⟨xs, ys, x, y, hq1, hq2, hx, hy⟩ := hg
    obtain ⟨its1, rv1, pl1, hz1⟩ := I.tuple hq1
    obtain ⟨its2, rv2, pl2, hz2⟩ := I.tuple hq2
    obtain ⟨u1, hu1, ru1⟩ := rv1.get hx
    obtain ⟨u2, hu2, ru2⟩ := rv2.get hy
    obtain ⟨hz, hTI, ⟨_, _, hTO⟩, hit1, hit2⟩ := st
    refine pyNext_zipT D hz hTI hTO hit1 hit2 pl1 pl2 (x := u1) (y := u2) (by simpa using hu1) (by simpa using hu2) fun h1 ho hTO1 hi1 hi2 hT hk' => ?_
    have hk : ∀ c o, c ≠ z → c ≠ TO → c ≠ i1 → c ≠ i2 → s.heap.get? c = some o → h1.get? c = some o := fun c o n1 n2 n3 n4 e => hk' c o (by simp [n1, n2, n3, n4]) e
    refine ⟨_, rfl, wpAny_letOwnedTupleGo_zip ho fun h2 he2 hs2 => ?_⟩
    have hp : H s.heap.objs.size = none := I.hok.fresh (Nat.le_refl _)
    have hpz : s.heap.objs.size ≠ z := Nat.ne_of_gt (Heap.lt_size hz)
    have k2 : ∀ c o, c ∉ [z, TI, TO, i1, i2] → s.heap.get? c = some o → h2.get? c = some o := fun c o hb q =>
      (hs2.2 c fun e => hb (by simp [e])).trans (hk c o (fun e => hb (by simp [e])) (fun e => hb (by simp [e])) (fun e => hb (by simp [e])) (fun e => hb (by simp [e])) q)
    have hT2 : h2.get? s.heap.objs.size = some { cls := .type "tuple", data := .seq #[u1, u2] } := (hs2.2 _ hpz).trans hT
    have nch : ∀ c u, H c = some u → c ∉ [z, TI, TO, i1, i2] := fun c u q hb => by
      rw [(hf c hb).1] at q; cases q
    have up : ∀ c, c < s.heap.objs.size → c ≠ s.heap.objs.size := fun c hb => Nat.ne_of_lt hb
    have I2 : Inv X pins σ (upd H s.heap.objs.size (.tup [x, y])) { s with heap := h2 } := by
      refine I.step (g' := s.gens) (d' := s.drawn) (t' := s.toks) (ch := [z, TI, TO, i1, i2]) (fun c hb => ?_) (fun c o _ _ hc q _ => k2 c o hc q) (fun c o _ _ hc q _ => ⟨o.slots, k2 c o hc q⟩)
        (fun c o _ q n => by rw [upd_ne (up c (Heap.lt_size q))]; exact n) (fun c o hc q => ⟨o, k2 c o hc q⟩) (fun c ys q => by rw [upd_ne (ne_of_none q hp)]; exact q) (fun c o v q => by rw [upd_ne (ne_of_none q hp)]; exact q)
        (fun c ps q => ⟨#[], by rw [upd_ne (ne_of_none q hp), q]; simp⟩) (fun m hm => ?_) (fun c v q => ?_) I.bare
      · obtain ⟨f0, f1, f2, f3, f4, f5⟩ := hf c hb
        exact ⟨f3, f1, f4, f5⟩
      · obtain ⟨o, es, ep, q, r⟩ := hm
        refine ⟨o, es, ep, k2 _ o (fun e => ?_) q, r⟩
        exact (hf _ e).2.1 rfl
      · by_cases hb : c = s.heap.objs.size
        · subst hb
          rw [upd_same] at q; cases q
          exact ⟨by show 2 ≤ sizeLine; decide, [u1, u2], .cons ru1 (.cons ru2 .nil), ⟨_, hT2, rfl, _, rfl⟩⟩
        · rw [upd_ne hb] at q
          refine (I.hok c v q).stay (fun c' o hc r => k2 c' o ?_ r) (fun c' r => by rw [upd_ne (ne_of_none r hp)]; exact r) fun c' ys r => by rw [upd_ne (ne_of_none r hp)]; exact r
          rcases hc with e | e
          · rw [e]; exact nch c v q
          · exact nch c' _ e
    refine ⟨.ref s.heap.objs.size, _, I2, rfl, ⟨_, x, y, hp, rfl, rfl, fun zs hz' => by rw [I.tuple_inj hz' hq1]; exact hx, fun zs hz' => by rw [I.tuple_inj hz' hq2]; exact hy⟩,
      ⟨he2, (hs2.2 TI D.TIz).trans (hk TI _ D.TIz D.TITO D.TIi1 D.TIi2 hTI), ⟨_, _, (hs2.2 TO D.TOz).trans hTO1⟩, hi1.at fun o q => (hs2.2 i1 D.i1z).trans q, hi2.at fun o q => (hs2.2 i2 D.i2z).trans q⟩, fun c hb => ?_⟩
    have lb : c < s.heap.objs.size := by
      simp only [List.mem_cons, List.not_mem_nil, or_false] at hb
      rcases hb with rfl | rfl | rfl | rfl | rfl
      · exact Heap.lt_size hz
      · exact Heap.lt_size hTI
      · exact Heap.lt_size hTO
      · obtain ⟨_, q, _⟩ := hit1; exact Heap.lt_size q
      · obtain ⟨_, q, _⟩ := hit2; exact Heap.lt_size q
    rw [upd_ne (up c lb)]
    exact (hf c hb).1
  done := by
    intro X hP hw hK hc i pins s σ H E I hf st hg
    subst hP hw hK
    obtain ⟨xs, ys, hq1, hq2, hx⟩ := hg
    obtain ⟨its1, rv1, pl1, hz1⟩ := I.tuple hq1
    obtain ⟨its2, rv2, pl2, hz2⟩ := I.tuple hq2
    obtain ⟨hz, hTI, ⟨_, _, hTO⟩, hit1, hit2⟩ := st
    have hl1 := rv1.length
    have hl2 := rv2.length
    refine pyNext_zipTEnd (I.ok.hd hc) D hz hTI hTO hit1 hit2 pl1 pl2 (by rcases hx with e | e; exact .inl (by simp; omega); exact .inr (by simp; omega)) fun h' eb' => ⟨rfl, ?_⟩
    have eb : ∀ c o, c ≠ z → c ≠ TO → c ≠ i1 → c ≠ i2 → s.heap.get? c = some o → h'.get? c = some o := fun c o n1 n2 n3 n4 e => eb' c o (by simp [n1, n2, n3, n4]) e
    have k2 : ∀ c o, c ∉ [z, TI, TO, i1, i2] → s.heap.get? c = some o → h'.get? c = some o := fun c o hb q => eb c o (fun e => hb (by simp [e])) (fun e => hb (by simp [e])) (fun e => hb (by simp [e])) (fun e => hb (by simp [e])) q
    refine I.step (g' := s.gens) (d' := s.drawn) (t' := s.toks) (ch := [z, TI, TO, i1, i2]) (fun c hb => ?_) (fun c o _ _ hc q _ => k2 c o hc q) (fun c o _ _ hc q _ => ⟨o.slots, k2 c o hc q⟩)
      (fun c o _ q n => n) (fun c o hc q => ⟨o, k2 c o hc q⟩) (fun c ys q => q) (fun c o v q => q) (fun c ps q => ⟨#[], by rw [q]; simp⟩) (fun m hm => ?_) (fun c v q => ?_) I.bare
    · obtain ⟨f0, f1, f2, f3, f4, f5⟩ := hf c hb
      exact ⟨f3, f1, f4, f5⟩
    · obtain ⟨o, es, ep, q, r⟩ := hm
      exact ⟨o, es, ep, k2 _ o (fun e => (hf _ e).2.1 rfl) q, r⟩
    · refine (I.hok c v q).stay (fun c' o hc r => k2 c' o ?_ r) (fun c' r => r) fun c' ys r => r
      have nch : ∀ c u, H c = some u → c ∉ [z, TI, TO, i1, i2] := fun c u q hb => by
        rw [(hf c hb).1] at q; cases q
      rcases hc with e | e
      · rw [e]; exact nch c v q
      · exact nch c' _ e
  self := fun _ _ _ _ _ st h => wpAny_pyIter_zip st.1 h
section
variable {X : Cx}
def iZipB (K : PySem.W.Frag) (ta : TA) : TI := fun σ H R => ta σ H fun vs H1 => ∃ a b xs ys, vs = [.ref a, .ref b] ∧ ((SqL K H1 a xs ∧ SqL K H1 b ys ∧ R (Itz K a b) H1) ∨ (SqT K H1 a xs ∧ SqT K H1 b ys ∧ R (ItzT K a b) H1))
theorem a_izipB {K : PySem.W.Frag} {ta : TA} {σ : St} {H : Hp} {R : It → Hp → Prop} : iZipB K ta σ H R = ta σ H fun vs H1 => ∃ a b xs ys, vs = [.ref a, .ref b] ∧ ((SqL K H1 a xs ∧ SqL K H1 b ys ∧ R (Itz K a b) H1) ∨ (SqT K H1 a xs ∧ SqT K H1 b ys ∧ R (ItzT K a b) H1)) := rfl
theorem pi_zipB {elts : List Expr} {tk : Nat} {tpos : Pos} {a b : Expr} {ta : TA} {p pos : Pos} (hg : Gl X "zip") (hm : X.mg "zip" = none) (ha : PA X [a, b] ta) (hs : starEach [a, b] X.env = [(false, eval a X.env), (false, eval b X.env)] := by rfl)
    (hs2 : starEach [b] X.env = [(false, eval b X.env)] := by rfl) :
    PI X (.Tuple elts tk tpos) (.Call (.Name "zip" p) [a, b] [] pos) (iZipB X.K ta) := by
  intro pins s σ H R I h
  refine Call_ (ld_blt I hg hm boot_zip (PyProof.Rows.callWith_type1 (thn (ha pos pins s σ H _ I h) fun us s1 ⟨vs, H1, I1, r1, q1⟩ => ?_) (by rw [hs, hs2]) (by rw [hs2]; rfl)))
  obtain ⟨a, b, xs, ys, e, q1⟩ := q1
  subst e
  cases r1 with
  | cons r rr =>
   cases rr with
   | cons r' rr =>
    cases rr
    cases r
    cases r'
    have fr : ∀ c, c ∈ [s1.heap.objs.size + 4, s1.heap.objs.size + 2, s1.heap.objs.size + 3, s1.heap.objs.size, s1.heap.objs.size + 1] → s1.heap.objs.size ≤ c := fun c hb => by
      simp only [List.mem_cons, List.not_mem_nil, or_false] at hb
      rcases hb with rfl | rfl | rfl | rfl | rfl <;> omega
    rcases q1 with ⟨hq1, hq2, q⟩ | ⟨hq1, hq2, q⟩
    · obtain ⟨its1, rv1, pl1, hz1⟩ := I1.list hq1
      obtain ⟨its2, rv2, pl2, hz2⟩ := I1.list hq2
      have a1 : a < s1.heap.objs.size := by obtain ⟨_, e, _⟩ := pl1.isList; exact Heap.lt_size e
      have a2 : b < s1.heap.objs.size := by obtain ⟨_, e, _⟩ := pl2.isList; exact Heap.lt_size e
      refine call_zip_2 pl1.isList pl2.isList fun h1 hz hTI hTO hi1 hi2 hsz hk => wpAny_pyIter_zip hz ?_
      exact ⟨_, _, _, _, H1, rfl, I1.kept (t' := s1.toks) hk, turn_zip a b _ _ _ _ _ (zipApart_new a1 a2), ⟨hz, hTI, ⟨_, _, hTO⟩, hi1, hi2⟩, fun c hb => I1.fpOk (fr c hb) (I1.hok.fresh (fr c hb)), q⟩
    · obtain ⟨its1, rv1, pl1, hz1⟩ := I1.tuple hq1
      obtain ⟨its2, rv2, pl2, hz2⟩ := I1.tuple hq2
      have a1 : a < s1.heap.objs.size := by obtain ⟨_, e, _⟩ := pl1; exact Heap.lt_size e
      have a2 : b < s1.heap.objs.size := by obtain ⟨_, e, _⟩ := pl2; exact Heap.lt_size e
      refine call_zipT pl1 pl2 fun h1 hz hTI hTO hi1 hi2 hk => wpAny_pyIter_zip hz ?_
      exact ⟨_, _, _, _, H1, rfl, I1.kept (t' := s1.toks) hk, turn_zipT a b _ _ _ _ _ (zipApart_new a1 a2), ⟨hz, hTI, ⟨_, _, hTO⟩, hi1, hi2⟩, fun c hb => I1.fpOk (fr c hb) (I1.hok.fresh (fr c hb)), q⟩
end
theorem lp_zipT {K : PySem.W.Frag} {a b : Addr} {xs ys : List V} {g : TG} {tb : TS} {D : Ends} {σ : St} {H : Hp} (Pv : Nat → St → Hp → Prop) (h0 : Pv 0 σ H) (hl : ∀ i σ H, i ≤ xs.length → i ≤ ys.length → Pv i σ H → SqT K H a xs ∧ SqT K H b ys)
    (hs : ∀ i v1 v2 p σ H, xs[i]? = some v1 → ys[i]? = some v2 → Pv i σ H → H p = none → g (.ref p) σ (upd H p (.tup [v1, v2])) fun σ2 H2 => tb { D with nx := Pv (i + 1), ct := Pv (i + 1), bk := D.nx } σ2 H2)
    (hd : ∀ σ H, Pv (min xs.length ys.length) σ H → D.nx σ H) : Loop (ItzT K a b) g tb D σ H := by
  refine ⟨fun i m σ H => m = min xs.length ys.length - i ∧ i ≤ min xs.length ys.length ∧ Pv i σ H, ⟨_, rfl, Nat.zero_le _, h0⟩, ?_⟩
  rintro i m σ H ⟨rfl, hi, p⟩
  obtain ⟨q1, q2⟩ := hl i σ H (by omega) (by omega) p
  by_cases hlt : i < min xs.length ys.length
  · have l1 : i < xs.length := by omega
    have l2 : i < ys.length := by omega
    refine .inr ⟨⟨xs, ys, xs[i], ys[i], q1, q2, List.getElem?_eq_getElem l1, List.getElem?_eq_getElem l2⟩, Pv (i + 1), fun σ' H' p' => ⟨min xs.length ys.length - (i + 1), by omega, rfl, hlt, p'⟩, fun x H' y => ?_⟩
    obtain ⟨pa, x1, x2, hn, e1, e2, y1, y2⟩ := y
    subst e1 e2
    exact hs i x1 x2 pa σ H (y1 xs q1) (y2 ys q2) p hn
  · have e : i = min xs.length ys.length := by omega
    rw [e] at p
    exact .inl ⟨⟨xs, ys, q1, q2, by omega⟩, hd σ H p⟩
end L2
namespace My
def trim (xs : List Int) : List Int := (xs.reverse.dropWhile (· == 0)).reverse
theorem trim_nil : trim [] = [] := rfl
theorem trim_zero (xs : List Int) : trim (xs ++ [0]) = trim xs := by
  unfold trim; rw [List.reverse_append]; rfl
theorem trim_ne (xs : List Int) {a : Int} (h : a ≠ 0) : trim (xs ++ [a]) = xs ++ [a] := by
  unfold trim
  rw [List.reverse_append]
  have : ([a].reverse ++ xs.reverse).dropWhile (· == 0) = a :: xs.reverse := by
    show (a :: xs.reverse).dropWhile (· == 0) = _
    rw [List.dropWhile_cons]
    simp [h]
  rw [this]; simp
def co (xs : List Int) (k : Nat) : Int := xs.getD k 0
theorem co_nil (k : Nat) : co [] k = 0 := rfl
theorem co_ge {xs : List Int} {k : Nat} (h : xs.length ≤ k) : co xs k = 0 := by
  unfold co; rw [List.getD_eq_getElem?_getD, List.getElem?_eq_none h]; rfl
theorem co_lt {xs : List Int} {k : Nat} (h : k < xs.length) : co xs k = xs[k] := by
  unfold co; rw [List.getD_eq_getElem?_getD, List.getElem?_eq_getElem h]; rfl
theorem co_snoc (xs : List Int) (a : Int) (k : Nat) : co (xs ++ [a]) k = if k = xs.length then a else co xs k := by
  by_cases h : k < xs.length
  · rw [if_neg (by omega)]
    unfold co; rw [List.getD_eq_getElem?_getD, List.getD_eq_getElem?_getD, List.getElem?_append_left h]
  · by_cases h2 : k = xs.length
    · subst h2; rw [if_pos rfl]; unfold co; rw [List.getD_eq_getElem?_getD, List.getElem?_append_right (Nat.le_refl _)]; simp
    · rw [if_neg h2, co_ge (by simp; omega), co_ge (by omega)]
theorem snoc_ind {P : List Int → Prop} (h0 : P []) (h1 : ∀ xs a, P xs → P (xs ++ [a])) (xs : List Int) : P xs := by
  have : ∀ ys : List Int, P ys.reverse := fun ys => by
    induction ys with
    | nil => exact h0
    | cons a r ih => rw [List.reverse_cons]; exact h1 _ _ ih
  have := this xs.reverse
  rwa [List.reverse_reverse] at this
theorem trim_co (xs : List Int) (k : Nat) : co (trim xs) k = co xs k := by
  refine snoc_ind (P := fun xs => co (trim xs) k = co xs k) rfl (fun xs a ih => ?_) xs
  by_cases h : a = 0
  · subst h; rw [trim_zero, ih, co_snoc]
    by_cases h2 : k = xs.length
    · rw [if_pos h2, co_ge (by omega)]
    · rw [if_neg h2]
  · rw [trim_ne _ h]
def Nml (xs : List Int) : Prop := ∀ a ys, xs = ys ++ [a] → a ≠ 0
theorem trim_nml (xs : List Int) : Nml (trim xs) := by
  refine snoc_ind (P := fun xs => Nml (trim xs)) (fun a ys h => ?_) (fun xs a ih => ?_) xs
  · rw [trim_nil] at h; simp at h
  · by_cases h : a = 0
    · subst h; rw [trim_zero]; exact ih
    · rw [trim_ne _ h]
      intro b ys e
      have := List.append_inj' e rfl
      have e2 : a = b := by simpa using this.2
      rw [← e2]; exact h
theorem nml_trim {xs : List Int} (h : Nml xs) : trim xs = xs := by
  rcases List.eq_nil_or_concat xs with rfl | ⟨ys, a, rfl⟩
  · rfl
  · rw [List.concat_eq_append] at *; exact trim_ne _ (h a ys rfl)
theorem nml_len {xs : List Int} (h : Nml xs) {n : Nat} (hz : ∀ k, n ≤ k → co xs k = 0) : xs.length ≤ n := by
  rcases List.eq_nil_or_concat xs with rfl | ⟨ys, a, rfl⟩
  · exact Nat.zero_le _
  · rw [List.concat_eq_append] at *
    have ha := h a ys rfl
    by_cases hn : (ys ++ [a]).length ≤ n
    · exact hn
    · have := hz ys.length (by simp at hn; omega)
      rw [co_snoc, if_pos rfl] at this
      exact absurd this ha
theorem co_ext {xs ys : List Int} (hl : xs.length = ys.length) (h : ∀ k, k < xs.length → co xs k = co ys k) : xs = ys := by
  refine List.ext_getElem hl fun k h1 h2 => ?_
  have := h k h1
  rw [co_lt h1, co_lt h2] at this; exact this
theorem nml_ext {xs ys : List Int} (hx : Nml xs) (hy : Nml ys) (h : ∀ k, co xs k = co ys k) : xs = ys := by
  have l1 : xs.length ≤ ys.length := nml_len hx fun k hk => by rw [h, co_ge hk]
  have l2 : ys.length ≤ xs.length := nml_len hy fun k hk => by rw [← h, co_ge hk]
  exact co_ext (by omega) fun k _ => h k
theorem trim_ext {xs ys : List Int} (h : ∀ k, co xs k = co ys k) : trim xs = trim ys :=
  nml_ext (trim_nml _) (trim_nml _) fun k => by rw [trim_co, trim_co, h]
theorem trim_len (xs : List Int) : (trim xs).length ≤ xs.length := nml_len (trim_nml _) fun k hk => by rw [trim_co, co_ge hk]
theorem trim_take {xs : List Int} {n : Nat} (hn : n ≤ xs.length) (hz : ∀ k, n ≤ k → co xs k = 0) (he : n = 0 ∨ co xs (n - 1) ≠ 0) : trim xs = xs.take n := by
  have c : ∀ k, co (xs.take n) k = co xs k := fun k => by
    by_cases hk : k < n
    · unfold co; rw [List.getD_eq_getElem?_getD, List.getD_eq_getElem?_getD, List.getElem?_take_of_lt hk]
    · rw [co_ge (by simp; omega), hz k (by omega)]
  have nm : Nml (xs.take n) := fun a ys e => by
    have hl : ys.length + 1 = n := by
      have := congrArg List.length e
      rw [List.length_take, List.length_append, List.length_singleton] at this; omega
    rcases he with h0 | h0
    · omega
    · have := c (n - 1)
      rw [e, co_snoc, if_pos (by omega)] at this
      rw [this]; exact h0
  exact nml_ext (trim_nml _) nm fun k => by rw [trim_co, c]
end My
namespace My
def sumN : Nat → (Nat → Int) → Int
  | 0, _ => 0
  | n + 1, f => sumN n f + f n
theorem sumN_congr {n : Nat} {f g : Nat → Int} (h : ∀ j, j < n → f j = g j) : sumN n f = sumN n g := by
  induction n with
  | zero => rfl
  | succ n ih => simp only [sumN]; rw [ih fun j hj => h j (by omega), h n (by omega)]
theorem sumN_zero {n : Nat} {f : Nat → Int} (h : ∀ j, j < n → f j = 0) : sumN n f = 0 := by
  induction n with
  | zero => rfl
  | succ n ih => simp only [sumN]; rw [ih fun j hj => h j (by omega), h n (by omega)]; rfl
def cz (xs : List Int) (k j : Nat) : Int := if j ≤ k then co xs (k - j) else 0
def cv (one other : List Int) (l k : Nat) : Int := sumN l fun j => co one j * cz other k j
def mulL (one other : List Int) : List Int := trim ((List.range (one.length + other.length)).map fun k => cv one other one.length k)
theorem co_map (n : Nat) (f : Nat → Int) (k : Nat) : co ((List.range n).map f) k = if k < n then f k else 0 := by
  by_cases h : k < n
  · rw [if_pos h, co_lt (by simpa using h)]; simp
  · rw [if_neg h, co_ge (by simp; omega)]
theorem cv_big (one other : List Int) (k : Nat) (h : one.length + other.length ≤ k + 1) : cv one other one.length k = 0 :=
  sumN_zero fun j hj => by
    unfold cz
    rw [if_pos (by omega), co_ge (xs := other) (by omega), Int.mul_zero]
theorem mul_eq (one other ans : List Int) (h : ∀ k, co ans k = if k + 1 < one.length + other.length then cv one other one.length k else 0) : trim ans = mulL one other := by
  refine trim_ext fun k => ?_
  rw [h, co_map]
  by_cases h1 : k + 1 < one.length + other.length
  · rw [if_pos h1, if_pos (by omega)]
  · rw [if_neg h1]
    by_cases h2 : k < one.length + other.length
    · rw [if_pos h2, cv_big _ _ _ (by omega)]
    · rw [if_neg h2]
theorem co_set (xs : List Int) (i k : Nat) (v : Int) (h : i < xs.length) : co (xs.set i v) k = if k = i then v else co xs k := by
  by_cases hk : k < xs.length
  · rw [co_lt (by simpa using hk), List.getElem_set, co_lt hk]
    by_cases e : k = i
    · rw [if_pos e, if_pos e.symm]
    · rw [if_neg e, if_neg (Ne.symm e)]
  · rw [co_ge (by simp; omega), if_neg (by omega), co_ge (by omega)]
end My
namespace My
def val (n : Int) : List Int → Int
  | [] => 0
  | c :: r => c + n * val n r
def hd (xs : List Int) : Int := xs.headD 0
def synth (b : Int) : List Int → List Int
  | [] => []
  | c :: r => (c + b * hd (synth b r)) :: synth b r
theorem synth_len (b : Int) : ∀ xs, (synth b xs).length = xs.length
  | [] => rfl
  | _ :: r => by simp [synth, synth_len b r]
def shiftN (b : Int) : Nat → List Int → List Int
  | 0, _ => []
  | n + 1, xs => hd (synth b xs) :: shiftN b n (synth b xs).tail
def shiftL (b : Int) (xs : List Int) : List Int := shiftN b xs.length xs
theorem val_split (b x : Int) : ∀ xs, val x xs = hd (synth b xs) + (x - b) * val x (synth b xs).tail
  | [] => by simp [val, synth, hd]
  | c :: r => by
    have ih := val_split b x r
    cases e : synth b r with
    | nil =>
      rw [e] at ih
      simp only [hd, List.headD_nil, List.tail_nil, val, Int.mul_zero, Int.add_zero] at ih
      simp only [val, synth, e, hd, List.headD_nil, List.headD_cons, List.tail_cons, ih, Int.mul_zero, Int.add_zero]
    | cons h q =>
      rw [e] at ih
      simp only [hd, List.headD_cons, List.tail_cons] at ih
      simp only [val, synth, e, hd, List.headD_cons, List.tail_cons, ih]
      simp only [Int.mul_add, Int.sub_mul, Int.mul_sub]
      have : x * (x * val x q) - x * (b * val x q) = x * (x * val x q) - b * (x * val x q) := by
        rw [← Int.mul_assoc x b, Int.mul_comm x b, Int.mul_assoc b x]
      omega
theorem val_shiftN (b n : Int) : ∀ (k : Nat) (xs : List Int), xs.length = k → val n (shiftN b k xs) = val (n + b) xs
  | 0, xs, h => by
    have : xs = [] := List.eq_nil_of_length_eq_zero h
    subst this; rfl
  | k + 1, xs, h => by
    show hd (synth b xs) + n * val n (shiftN b k (synth b xs).tail) = _
    rw [val_shiftN b n k _ (by rw [List.length_tail, synth_len, h]; rfl), val_split b (n + b) xs]
    have : n + b - b = n := by omega
    rw [this]
theorem val_shift (b n : Int) (xs : List Int) : val n (shiftL b xs) = val (n + b) xs := val_shiftN b n _ xs rfl
theorem shiftN_len (b : Int) : ∀ (k : Nat) (xs : List Int), (shiftN b k xs).length = k
  | 0, _ => rfl
  | k + 1, xs => by simp [shiftN, shiftN_len b k]
theorem shift_len (b : Int) (xs : List Int) : (shiftL b xs).length = xs.length := shiftN_len b _ xs
theorem val_zero : ∀ (xs : List Int) (M : Int), (∀ n, M < n → val n xs = 0) → ∀ x ∈ xs, x = 0
  | [], _, _, _, h => nomatch h
  | c :: r, M, h, x, hx => by
    have hc : c = 0 := by
      have h1 := h (max M 0 + c.natAbs + 1) (by omega)
      simp only [val] at h1
      have hd : (max M 0 + c.natAbs + 1) ∣ c := ⟨-(val (max M 0 + c.natAbs + 1) r), by rw [Int.mul_neg]; omega⟩
      by_cases hz : c = 0
      · exact hz
      · have := Int.natAbs_dvd_natAbs.mpr hd
        have := Nat.le_of_dvd (by omega) this
        omega
    have hr : ∀ n, max M 0 < n → val n r = 0 := fun n hn => by
      have h1 := h n (by omega)
      simp only [val, hc, Int.zero_add] at h1
      rcases Int.mul_eq_zero.mp h1 with z | z
      · omega
      · exact z
    rcases List.mem_cons.mp hx with rfl | hx
    · exact hc
    · exact val_zero r _ hr x hx
theorem val_sub (n : Int) : ∀ (xs ys : List Int), xs.length = ys.length → val n (List.zipWith (· - ·) xs ys) = val n xs - val n ys
  | [], [], _ => rfl
  | x :: xs, y :: ys, h => by
    have ih := val_sub n xs ys (by simpa using h)
    simp only [List.zipWith_cons_cons, val, ih, Int.mul_sub]; omega
theorem zip_zero : ∀ (xs ys : List Int), xs.length = ys.length → (∀ d ∈ List.zipWith (· - ·) xs ys, d = 0) → xs = ys
  | [], [], _, _ => rfl
  | x :: xs, y :: ys, h, hz => by
    have h1 := hz (x - y) (by simp)
    have h2 := zip_zero xs ys (by simpa using h) fun d hd => hz d (by simp [hd])
    rw [h2, show x = y by omega]
theorem val_ext {xs ys : List Int} (hl : xs.length = ys.length) (h : ∀ n, val n xs = val n ys) : xs = ys :=
  zip_zero xs ys hl (val_zero _ 0 fun n _ => by rw [val_sub n xs ys hl, h n]; omega)
end My
namespace My
def mixed (b : Int) (zs : List Int) (j : Nat) : List Int := zs.take j ++ synth b (zs.drop j)
theorem mixed_len (b : Int) (zs : List Int) (j : Nat) : (mixed b zs j).length = zs.length := by
  unfold mixed; rw [List.length_append, synth_len, ← List.length_append, List.take_append_drop]
theorem mixed_zero (b : Int) (zs : List Int) : mixed b zs 0 = synth b zs := by simp [mixed]
theorem mixed_last (b : Int) (zs : List Int) (h : zs ≠ []) : mixed b zs (zs.length - 1) = zs := by
  rcases List.eq_nil_or_concat zs with rfl | ⟨ys, a, rfl⟩
  · exact absurd rfl h
  · rw [List.concat_eq_append]
    unfold mixed
    have e : (ys ++ [a]).length - 1 = ys.length := by simp
    rw [e, List.take_left, List.drop_left]
    simp [synth, hd]
theorem mixed_at (b : Int) (zs : List Int) (j : Nat) (h : j < zs.length) : (mixed b zs (j + 1))[j]? = some zs[j] := by
  unfold mixed
  rw [List.getElem?_append_left (by rw [List.length_take]; omega), List.getElem?_take_of_lt (by omega), List.getElem?_eq_getElem h]
theorem mixed_next (b : Int) (zs : List Int) (j : Nat) (h : j + 1 < zs.length) : (mixed b zs (j + 1))[j + 1]? = some (hd (synth b (zs.drop (j + 1)))) := by
  unfold mixed
  rw [List.getElem?_append_right (by rw [List.length_take]; omega)]
  have e : j + 1 - (zs.take (j + 1)).length = 0 := by rw [List.length_take]; omega
  have hl : 0 < (synth b (zs.drop (j + 1))).length := by rw [synth_len, List.length_drop]; omega
  rw [e]
  cases q : synth b (zs.drop (j + 1)) with
  | nil => rw [q] at hl; exact absurd hl (by simp)
  | cons x r => simp [hd]
theorem mixed_set (b : Int) (zs : List Int) (j : Nat) (h : j < zs.length) : (mixed b zs (j + 1)).set j (zs[j] + b * hd (synth b (zs.drop (j + 1)))) = mixed b zs j := by
  unfold mixed
  rw [List.take_succ_eq_append_getElem h, List.append_assoc, List.set_append_right _ _ (by rw [List.length_take]; omega)]
  have e : j - (zs.take j).length = 0 := by rw [List.length_take]; omega
  rw [e, List.drop_eq_getElem_cons h]
  rfl
theorem shift_turn (b : Int) (m : Nat) (zs : List Int) (h : zs.length = m + 1) : shiftN b (m + 1) zs = hd (synth b zs) :: shiftN b m (synth b zs).tail ∧ synth b zs = hd (synth b zs) :: (synth b zs).tail ∧ (synth b zs).tail.length = m := by
  refine ⟨rfl, ?_, by rw [List.length_tail, synth_len, h]; rfl⟩
  have hl := synth_len b zs
  cases q : synth b zs with
  | nil => rw [q, h] at hl; simp at hl
  | cons x r => simp [hd]
theorem shift_one (b c : Int) : shiftN b 1 [c] = [c] := by simp [shiftN, synth, hd]
end My
namespace My
theorem nml_last {xs : List Int} : Nml xs ↔ ∀ a, xs.getLast? = some a → a ≠ 0 := by
  constructor
  · intro h a e
    rcases List.eq_nil_or_concat xs with rfl | ⟨ys, b, rfl⟩
    · simp at e
    · rw [List.concat_eq_append] at *
      rw [List.getLast?_concat] at e
      rw [← Option.some.inj e]; exact h b ys rfl
  · intro h a ys e
    exact h a (by rw [e, List.getLast?_concat])
theorem synth_last (b : Int) : ∀ xs : List Int, (synth b xs).getLast? = xs.getLast?
  | [] => rfl
  | [c] => by simp [synth, hd]
  | c :: d :: r => by
    have ih := synth_last b (d :: r)
    have e : synth b (c :: d :: r) = (c + b * hd (synth b (d :: r))) :: synth b (d :: r) := rfl
    rw [e]
    have hl := synth_len b (d :: r)
    cases q : synth b (d :: r) with
    | nil => rw [q] at hl; simp at hl
    | cons x s => rw [List.getLast?_cons_cons, ← q, ih, List.getLast?_cons_cons]
theorem shiftN_last (b : Int) : ∀ (n : Nat) (xs : List Int), xs.length = n → (shiftN b n xs).getLast? = xs.getLast?
  | 0, xs, h => by rw [List.eq_nil_of_length_eq_zero h]; rfl
  | n + 1, xs, h => by
    obtain ⟨s1, s2, s3⟩ := shift_turn b n xs h
    rw [s1]
    have ih := shiftN_last b n (synth b xs).tail s3
    have hs := synth_last b xs
    rw [s2] at hs
    cases q : (synth b xs).tail with
    | nil =>
      rw [q] at s3 hs
      have : n = 0 := by simpa using s3.symm
      subst this
      rw [← hs]; rfl
    | cons x r =>
      rw [q] at ih hs
      have hl := shiftN_len b n (x :: r)
      rw [q] at s3
      cases q2 : shiftN b n (x :: r) with
      | nil => rw [q2] at hl; rw [← s3] at hl; simp at hl
      | cons y t => rw [List.getLast?_cons_cons, ← q2, ih, ← hs, List.getLast?_cons_cons]
theorem shift_nml {b : Int} {xs : List Int} (h : Nml xs) : Nml (shiftL b xs) := nml_last.mpr fun a e => nml_last.mp h a (by rw [← shiftN_last b xs.length xs rfl]; exact e)
end My
namespace My
theorem gcd_split {t b s : Int} (hb : b ≠ 0) (hs : s = if b < 0 then -((Nat.gcd t.natAbs b.natAbs : Nat) : Int) else ((Nat.gcd t.natAbs b.natAbs : Nat) : Int)) :
    s ≠ 0 ∧ s.natAbs = Nat.gcd t.natAbs b.natAbs ∧ t = s * t.fdiv s ∧ b = s * b.fdiv s ∧ 1 ≤ b.fdiv s ∧ Nat.gcd (t.fdiv s).natAbs (b.fdiv s).natAbs = 1 := by
  have gp : 0 < Nat.gcd t.natAbs b.natAbs := Nat.gcd_pos_of_pos_right _ (by omega)
  have sa : s.natAbs = Nat.gcd t.natAbs b.natAbs := by
    rw [hs]; split
    · rw [Int.natAbs_neg, Int.natAbs_natCast]
    · rw [Int.natAbs_natCast]
  have s0 : s ≠ 0 := by intro z; rw [z] at sa; simp at sa; omega
  have dt : s ∣ t := Int.natAbs_dvd_natAbs.mp (by rw [sa]; exact Nat.gcd_dvd_left _ _)
  have db : s ∣ b := Int.natAbs_dvd_natAbs.mp (by rw [sa]; exact Nat.gcd_dvd_right _ _)
  obtain ⟨c, hc⟩ := dt
  obtain ⟨d, hd⟩ := db
  have ec : t.fdiv s = c := by rw [hc]; exact Int.mul_fdiv_cancel_left c s0
  have ed : b.fdiv s = d := by rw [hd]; exact Int.mul_fdiv_cancel_left d s0
  rw [ec, ed]
  refine ⟨s0, sa, hc, hd, ?_, ?_⟩
  · by_cases hn : b < 0
    · rw [if_pos hn] at hs
      have : s < 0 := by omega
      rcases Int.lt_or_le 0 d with h | h
      · omega
      · have := Int.mul_nonneg_of_nonpos_of_nonpos (Int.le_of_lt this) h
        omega
    · rw [if_neg hn] at hs
      have : 0 < s := by omega
      rcases Int.lt_or_le 0 d with h | h
      · omega
      · have := Int.mul_nonpos_of_nonneg_of_nonpos (Int.le_of_lt this) h
        omega
  · have e1 : t.natAbs = s.natAbs * c.natAbs := by rw [← Int.natAbs_mul, ← hc]
    have e2 : b.natAbs = s.natAbs * d.natAbs := by rw [← Int.natAbs_mul, ← hd]
    have e3 := sa
    rw [e1, e2, Nat.gcd_mul_left] at e3
    have sp : 0 < s.natAbs := by omega
    exact Nat.eq_of_mul_eq_mul_left sp (by omega)
theorem fdiv_le {t s : Int} (s0 : s ≠ 0) (h : t = s * t.fdiv s) : (t.fdiv s).natAbs ≤ t.natAbs := by
  have e : t.natAbs = s.natAbs * (t.fdiv s).natAbs := by rw [← Int.natAbs_mul, ← h]
  rw [e]
  exact Nat.le_mul_of_pos_left _ (by omega)
end My
namespace My
def pm (f g : Nat → Int) (k : Nat) : Int := sumN (k + 1) fun j => f j * g (k - j)
theorem sumN_one {n i : Nat} {f : Nat → Int} (hi : i < n) (h : ∀ j, j < n → j ≠ i → f j = 0) : sumN n f = f i := by
  induction n with
  | zero => omega
  | succ n ih =>
    simp only [sumN]
    by_cases e : i = n
    · subst e
      rw [sumN_zero fun j hj => h j (by omega) (by omega)]; omega
    · rw [ih (by omega) fun j hj hne => h j (by omega) hne, h n (by omega) (Ne.symm e)]; omega
theorem pm_zero {f g : Nat → Int} (h : ∀ j, g j = 0) (k : Nat) : pm f g k = 0 := sumN_zero fun j _ => by rw [h]; simp
theorem pm_top {g d : Nat → Int} {m t : Nat} (hg : ∀ j, m + 1 ≤ j → g j = 0) (hd : ∀ j, t + 1 ≤ j → d j = 0) : pm g d (t + m) = g m * d t := by
  unfold pm
  rw [sumN_one (i := m) (by omega) fun j hj hne => ?_]
  · rw [show t + m - m = t by omega]
  · by_cases h : j < m
    · rw [hd (t + m - j) (by omega)]; simp
    · rw [hg j (by omega)]; simp
def Div (one other q : List Int) : Prop := ∀ k, co one k = pm (co other) (co q) k
theorem co_last {xs : List Int} (h : Nml xs) (hne : xs ≠ []) : co xs (xs.length - 1) ≠ 0 := by
  rcases List.eq_nil_or_concat xs with rfl | ⟨ys, a, rfl⟩
  · exact absurd rfl hne
  · rw [List.concat_eq_append] at *
    rw [show (ys ++ [a]).length - 1 = ys.length by simp, co_snoc, if_pos rfl]
    exact h a ys rfl
theorem co_over {xs : List Int} (j : Nat) (h : xs.length - 1 + 1 ≤ j) : co xs j = 0 := co_ge (by omega)
theorem div_len {one other q : List Int} (ho : Nml other) (hne : other ≠ []) (h1 : Nml one) (hq : Nml q) (h : Div one other q) (hone : one ≠ []) : q ≠ [] ∧ one.length + 1 = q.length + other.length := by
  have qne : q ≠ [] := by
    intro z
    have := co_last h1 hone
    rw [h, z] at this
    exact this (pm_zero (fun j => rfl) _)
  have lq : 0 < q.length := List.length_pos_iff.mpr qne
  have lo : 0 < other.length := List.length_pos_iff.mpr hne
  have l1 : 0 < one.length := List.length_pos_iff.mpr hone
  refine ⟨qne, ?_⟩
  have top := pm_top (g := co other) (d := co q) (m := other.length - 1) (t := q.length - 1) (fun j hj => co_over j hj) (fun j hj => co_over j hj)
  rw [← h] at top
  have tne : co one (q.length - 1 + (other.length - 1)) ≠ 0 := by
    rw [top]
    intro z
    rcases Int.mul_eq_zero.mp z with z | z
    · exact co_last ho hne z
    · exact co_last hq qne z
  have lt : q.length - 1 + (other.length - 1) < one.length := by
    by_cases hlt : q.length - 1 + (other.length - 1) < one.length
    · exact hlt
    · exact absurd (co_ge (by omega)) tne
  have big : one.length ≤ q.length - 1 + (other.length - 1) + 1 := nml_len h1 fun k hk => by
    rw [h]
    refine sumN_zero fun j hj => ?_
    by_cases hjm : j < other.length
    · rw [co_ge (xs := q) (by omega)]; simp
    · rw [co_ge (xs := other) (by omega)]; simp
  omega
end My
namespace My
theorem nml_nil : Nml [] := fun a ys e => by simp at e
theorem nml_zero {xs : List Int} (h : Nml xs) (hz : ∀ k, co xs k = 0) : xs = [] := nml_ext h nml_nil fun k => by rw [hz]; rfl
theorem trim_nilI {xs : List Int} : trim xs = [] ↔ ∀ k, co xs k = 0 := by
  constructor
  · intro h k; rw [← trim_co, h]; rfl
  · intro h; exact nml_zero (trim_nml _) fun k => by rw [trim_co]; exact h k
end My
namespace My
theorem val_add (n : Int) : ∀ (xs ys : List Int), xs.length = ys.length → val n (List.zipWith (· + ·) xs ys) = val n xs + val n ys
  | [], [], _ => rfl
  | x :: xs, y :: ys, h => by
    have ih := val_add n xs ys (by simpa using h)
    simp only [List.zipWith_cons_cons, val, ih, Int.mul_add]; omega
theorem val_scaled (n b : Int) : ∀ xs : List Int, val n (xs.map (fun x => b * x) ++ [0]) = b * val n xs
  | [] => by simp [val]
  | x :: xs => by
    have ih := val_scaled n b xs
    simp only [List.map_cons, List.cons_append, val, ih, Int.mul_add]
    rw [← Int.mul_assoc n b, Int.mul_comm n b, Int.mul_assoc]
def hstep (b c : Int) (f : List Int) : List Int := List.zipWith (· + ·) (c :: f) (f.map (fun x => b * x) ++ [0])
theorem hstep_len (b c : Int) (f : List Int) : (hstep b c f).length = f.length + 1 := by simp [hstep]
theorem val_hstep (n b c : Int) (f : List Int) : val n (hstep b c f) = c + (n + b) * val n f := by
  unfold hstep
  rw [val_add n _ _ (by simp), val_scaled]
  simp only [val, Int.add_mul]; omega
def movedL (b : Int) : List Int → List Int
  | [] => []
  | c :: r => hstep b c (movedL b r)
theorem moved_len (b : Int) : ∀ xs, (movedL b xs).length = xs.length
  | [] => rfl
  | c :: r => by rw [movedL, hstep_len, moved_len b r]; rfl
theorem val_moved (b n : Int) : ∀ xs, val n (movedL b xs) = val (n + b) xs
  | [] => rfl
  | c :: r => by rw [movedL, val_hstep, val_moved b n r]; rfl
theorem co_cons (c : Int) (f : List Int) (j : Nat) : co (c :: f) j = if j = 0 then c else co f (j - 1) := by
  cases j with
  | zero => rfl
  | succ j => rw [if_neg (by omega)]; rfl
def Clear (ys : List Int) : Prop := hd ys ≠ 0 ∧ ∀ y ∈ ys, 0 ≤ y * hd ys
theorem val_sign {n : Int} (hn : 0 ≤ n) (c : Int) : ∀ ys : List Int, (∀ y ∈ ys, 0 ≤ y * c) → 0 ≤ val n ys * c
  | [], _ => by simp [val]
  | y :: ys, h => by
    have ih := val_sign hn c ys fun z hz => h z (List.mem_cons_of_mem _ hz)
    have hy := h y List.mem_cons_self
    simp only [val, Int.add_mul, Int.mul_assoc]
    have := Int.mul_nonneg hn ih
    omega
theorem clear_val {n : Int} (hn : 0 ≤ n) {ys : List Int} (h : Clear ys) : val n ys ≠ 0 := by
  cases ys with
  | nil => exact absurd rfl h.1
  | cons c r =>
    obtain ⟨h1, h2⟩ := h
    have h1 : c ≠ 0 := h1
    have h2 : ∀ y ∈ c :: r, 0 ≤ y * c := h2
    have hr := val_sign hn c r fun y hy => h2 y (List.mem_cons_of_mem _ hy)
    intro z
    have e : val n (c :: r) * c = c * c + n * (val n r * c) := by simp only [val, Int.add_mul, Int.mul_assoc]
    rw [z, Int.zero_mul] at e
    have p := Int.mul_nonneg hn hr
    have q : 0 < c * c := by
      rcases Int.lt_or_gt_of_ne h1 with g | g
      · exact Int.mul_pos_of_neg_of_neg g g
      · exact Int.mul_pos g g
    omega
theorem clear_iff {ys : List Int} (h0 : hd ys ≠ 0) : Clear ys ↔ (∀ y ∈ ys, 0 ≤ y) ∨ (∀ y ∈ ys, y ≤ 0) := by
  have hm : hd ys ∈ ys := by
    cases ys with
    | nil => exact absurd rfl h0
    | cons c r => exact List.mem_cons_self
  constructor
  · intro h
    rcases Int.lt_or_gt_of_ne h0 with g | g
    · refine .inr fun y hy => ?_
      have := h.2 y hy
      by_cases z : y ≤ 0
      · exact z
      · have := Int.mul_neg_of_pos_of_neg (show 0 < y by omega) g
        omega
    · refine .inl fun y hy => ?_
      have := h.2 y hy
      by_cases z : 0 ≤ y
      · exact z
      · have := Int.mul_neg_of_neg_of_pos (show y < 0 by omega) g
        omega
  · rintro (h | h)
    · exact ⟨h0, fun y hy => Int.mul_nonneg (h y hy) (h _ hm)⟩
    · exact ⟨h0, fun y hy => Int.mul_nonneg_of_nonpos_of_nonpos (h y hy) (h _ hm)⟩
end My
namespace My
def sh (g : Nat → Int) (j : Nat) : Int := if j = 0 then 0 else g (j - 1)
theorem sumN_first (n : Nat) (f : Nat → Int) : sumN (n + 1) f = f 0 + sumN n fun j => f (j + 1) := by
  induction n with
  | zero => simp [sumN]
  | succ n ih =>
    rw [show sumN (n + 1 + 1) f = sumN (n + 1) f + f (n + 1) from rfl, ih]
    simp only [sumN]; omega
def ev (p : Int) (f : Nat → Int) : Nat → Nat → Int
  | 0, _ => 0
  | n + 1, s => f s + p * ev p f n (s + 1)
theorem ev_lin (p a b : Int) (f g : Nat → Int) : ∀ n s, ev p (fun j => a * f j - b * g j) n s = a * ev p f n s - b * ev p g n s
  | 0, _ => by simp [ev]
  | n + 1, s => by
    simp only [ev]
    rw [ev_lin p a b f g n (s + 1), Int.mul_sub, Int.mul_add, Int.mul_add, ← Int.mul_assoc p a, ← Int.mul_assoc p b, Int.mul_comm p a, Int.mul_comm p b, Int.mul_assoc, Int.mul_assoc]
    omega
theorem down (p : Int) {K Z : Nat → Int} {e : Nat} (hK : ∀ j, e + 1 ≤ j → K j = 0) (hZ : ∀ j, e ≤ j → Z j = 0) :
    ∃ Z' : Nat → Int, (∀ j, e ≤ j → Z' j = 0) ∧ ∀ j, p * Z' j - sh Z' j = ev p K (e + 1) 0 * Z j - ev p Z (e + 1) 0 * K j := by
  let k0 := ev p K (e + 1) 0
  let z0 := ev p Z (e + 1) 0
  let F : Nat → Int := fun j => k0 * Z j - z0 * K j
  let v : Nat → Int := fun j => ev p F (e + 1 - j) j
  have hF : ∀ j, e + 1 ≤ j → F j = 0 := fun j hj => by show k0 * Z j - z0 * K j = 0; rw [hZ j (by omega), hK j hj]; simp
  have hv : ∀ j, v j = F j + p * v (j + 1) := fun j => by
    show ev p F (e + 1 - j) j = F j + p * ev p F (e + 1 - (j + 1)) (j + 1)
    by_cases h : j ≤ e
    · rw [show e + 1 - j = (e - j) + 1 by omega, show e + 1 - (j + 1) = e - j by omega]; rfl
    · rw [show e + 1 - j = 0 by omega, show e + 1 - (j + 1) = 0 by omega, hF j (by omega)]; simp [ev]
  have h0 : v 0 = 0 := by
    show ev p (fun j => k0 * Z j - z0 * K j) (e + 1) 0 = 0
    rw [ev_lin]
    show k0 * z0 - z0 * k0 = 0
    rw [Int.mul_comm]; omega
  refine ⟨fun j => - v (j + 1), fun j hj => ?_, fun j => ?_⟩
  · show - ev p F (e + 1 - (j + 1)) (j + 1) = 0
    rw [show e + 1 - (j + 1) = 0 by omega]; rfl
  · show p * (- v (j + 1)) - sh (fun j => - v (j + 1)) j = F j
    have a := hv j
    unfold sh
    by_cases h : j = 0
    · subst h
      rw [if_pos rfl]
      rw [h0] at a
      rw [Int.mul_neg]; omega
    · rw [if_neg h]
      show p * (- v (j + 1)) - (- v (j - 1 + 1)) = F j
      rw [show j - 1 + 1 = j by omega, Int.mul_neg]; omega
section
variable {p : Int} {K L : Nat → Int} {e t M : Nat} (he : 1 ≤ e) (hK : ∀ j, e + 1 ≤ j → K j = 0) (kt : K e ≠ 0) (hL : ∀ j, t + 1 ≤ j → L j = 0) (lt : L t ≠ 0) (hM : ∀ j, (pm L K j).natAbs ≤ M) (hp : (ev p K (e + 1) 0).natAbs + M + 1 < p.natAbs)
include he hK kt hL lt hM hp
end
end My
namespace My
end My
namespace My
def addP : List Int → List Int → List Int
  | [], ys => ys
  | xs, [] => xs
  | x :: xs, y :: ys => (x + y) :: addP xs ys
theorem val_addP (n : Int) : ∀ xs ys, val n (addP xs ys) = val n xs + val n ys
  | [], ys => by simp [addP, val]
  | x :: xs, [] => by simp [addP, val]
  | x :: xs, y :: ys => by
    simp only [addP, val]
    rw [val_addP n xs ys, Int.mul_add]; omega
theorem val_map (n c : Int) : ∀ xs : List Int, val n (xs.map fun x => c * x) = c * val n xs
  | [] => by simp [val]
  | x :: xs => by
    simp only [List.map_cons, val]
    rw [val_map n c xs, Int.mul_add, ← Int.mul_assoc n c, Int.mul_comm n c, Int.mul_assoc]
def mulP : List Int → List Int → List Int
  | [], _ => []
  | c :: f, g => addP (g.map fun x => c * x) (0 :: mulP f g)
theorem val_mulP (n : Int) : ∀ f g, val n (mulP f g) = val n f * val n g
  | [], g => by simp [mulP, val]
  | c :: f, g => by
    simp only [mulP]
    rw [val_addP, val_map]
    simp only [val]
    rw [val_mulP n f g, Int.add_mul, Int.mul_assoc]; omega
theorem co_addP : ∀ (xs ys : List Int) (k : Nat), co (addP xs ys) k = co xs k + co ys k
  | [], ys, k => by simp [addP, co_nil]
  | x :: xs, [], k => by simp [addP, co_nil]
  | x :: xs, y :: ys, k => by
    simp only [addP]
    rw [co_cons, co_cons, co_cons]
    by_cases h : k = 0
    · simp [h]
    · rw [if_neg h, if_neg h, if_neg h, co_addP xs ys]
theorem co_mulP : ∀ (f g : List Int) (k : Nat), co (mulP f g) k = pm (co f) (co g) k
  | [], g, k => by
    rw [show mulP [] g = [] from rfl, co_nil]
    exact (sumN_zero fun j _ => by rw [co_nil, Int.zero_mul]).symm
  | c :: f, g, k => by
    simp only [mulP]
    rw [co_addP, co_cons]
    have e1 : co (g.map fun x => c * x) k = c * co g k := by
      by_cases h : k < g.length
      · rw [co_lt (by simpa using h), co_lt h, List.getElem_map]
      · rw [co_ge (by simp; omega), co_ge (by omega), Int.mul_zero]
    rw [e1]
    unfold pm
    rw [sumN_first]
    have e2 : co (c :: f) 0 = c := rfl
    rw [e2, Nat.sub_zero]
    by_cases h : k = 0
    · subst h
      rw [if_pos rfl]; simp [sumN]
    · rw [if_neg h, co_mulP f g (k - 1)]
      obtain ⟨m, rfl⟩ : ∃ m, k = m + 1 := ⟨k - 1, by omega⟩
      unfold pm
      rw [show m + 1 - 1 = m by omega]
      congr 1
      refine sumN_congr fun j hj => ?_
      rw [co_cons, if_neg (by omega), show j + 1 - 1 = j by omega, show m + 1 - (j + 1) = m - j by omega]
theorem val_pad (n : Int) (xs : List Int) : ∀ k, val n (xs ++ List.replicate k 0) = val n xs := by
  intro k
  induction xs with
  | nil =>
    induction k with
    | zero => rfl
    | succ k ih => rw [List.nil_append] at *; rw [List.replicate_succ]; simp only [val]; rw [ih]; simp [val]
  | cons x xs ih => simp only [List.cons_append, val]; rw [ih]
theorem co_pad (xs : List Int) (k j : Nat) : co (xs ++ List.replicate k 0) j = co xs j := by
  by_cases h : j < xs.length
  · unfold co; rw [List.getD_eq_getElem?_getD, List.getD_eq_getElem?_getD, List.getElem?_append_left h]
  · rw [co_ge (xs := xs) (by omega)]
    unfold co
    rw [List.getD_eq_getElem?_getD, List.getElem?_append_right (by omega), List.getElem?_replicate]
    split <;> rfl
theorem co_of_val {xs ys : List Int} (h : ∀ n, val n xs = val n ys) (k : Nat) : co xs k = co ys k := by
  have e : xs ++ List.replicate ys.length 0 = ys ++ List.replicate xs.length 0 := val_ext (by simp; omega) fun n => by rw [val_pad, val_pad, h]
  rw [← co_pad xs ys.length k, e, co_pad]
theorem val_of_co {xs ys : List Int} (h : ∀ k, co xs k = co ys k) (n : Int) : val n xs = val n ys := by
  have e : xs ++ List.replicate ys.length 0 = ys ++ List.replicate xs.length 0 := co_ext (by simp; omega) fun k _ => by rw [co_pad, co_pad, h]
  rw [← val_pad n xs ys.length, e, val_pad]
end My
namespace My
end My
namespace My
open PySem PySem.Spec PyProof.Rows L2
local macro_rules | `(tactic| k_units) => `(tactic| ((try dsimp only [a_fld, a_sfld, a_meth, a_make, a_maxD, a_inS, a_ipC, a_izip, a_tComp2, a_izipB, a_tryAs, a_drop_nx, a_raise, a_try, a_fst, a_compIf, a_seq, a_next, a_brk, a_cnt, a_drop, a_ret, a_retN, a_if, a_asg, a_gname, a_gsub, a_gtup, a_gnil, a_gcons, a_aug, a_augS, a_ipI, a_var, a_c, a_op, a_un, a_rI, a_rI0, a_rU, a_eqI, a_neI, a_eqB, a_neB, a_tB, a_test, a_and, a_or, a_not, a_andV, a_orV, a_notV, a_ifE, a_chain, a_nil, a_cons, a_lst, a_tup, a_call, a_cb, a_bm0, a_bm, a_sl, a_nopart, a_part, a_tyI, a_for, a_comp, a_ilist, a_itup, a_irng1, a_irng2, a_irng3, a_cxK, a_irev, a_ienum, a_cat, a_rep, a_pop, a_clear, a_rslL, a_ixL, a_ixT, a_setL, a_app]); (try simp only [a_fld, a_sfld, a_meth, a_make, a_maxD, a_inS, a_ipC, a_izip, a_tComp2, a_izipB, a_tryAs, a_drop_nx, a_raise, a_try, a_fst, a_compIf, a_seq, a_next, a_brk, a_cnt, a_drop, a_ret, a_retN, a_if, a_asg, a_gname, a_gsub, a_gtup, a_gnil, a_gcons, a_aug, a_augS, a_ipI, a_var, a_c, a_op, a_un, a_rI, a_rI0, a_rU, a_eqI, a_neI, a_eqB, a_neB, a_tB, a_test, a_and, a_or, a_not, a_andV, a_orV, a_notV, a_ifE, a_chain, a_nil, a_cons, a_lst, a_tup, a_call, a_cb, a_bm0, a_bm, a_sl, a_nopart, a_part, a_tyI, a_for, a_comp, a_ilist, a_itup, a_irng1, a_irng2, a_irng3, a_cxK, and_assoc, a_irev, a_ienum, a_cat, a_rep, a_pop, a_clear, a_rslL, a_ixL, a_ixT, a_setL, a_app, List.getElem?_cons_zero, List.getElem?_cons_succ, List.set_cons_zero, List.set_cons_succ, Option.some.injEq, V.int.injEq, V.bl.injEq, V.ref.injEq, V.ty.injEq, exists_eq_left', exists_eq_left, exists_and_left, decide_eq_true_eq, List.cons_append, List.nil_append, List.append_nil, List.cons.injEq, and_true, true_and, Bool.not_eq_true', decide_eq_false_iff_not, ite_true, ite_false, Bool.false_eq_true, if_true, if_false, List.length_cons, List.length_nil, L2.start, List.map_cons, List.map_nil, List.replicate_succ, List.replicate_zero])))
local macro_rules | `(tactic| k_typeOf) => `(tactic| ((try dsimp only [a_fld, a_sfld, a_meth, a_make, a_maxD, a_inS, a_ipC, a_izip, a_tComp2, a_izipB, a_tryAs, a_drop_nx, a_raise, a_try, a_fst, a_compIf, a_next, a_brk, a_cnt, a_drop, a_ret, a_retN, a_if, a_asg, a_gname, a_gsub, a_gtup, a_gnil, a_gcons, a_aug, a_augS, a_ipI, a_var, a_c, a_op, a_un, a_rI, a_rI0, a_rU, a_eqI, a_neI, a_eqB, a_neB, a_tB, a_test, a_and, a_or, a_not, a_andV, a_orV, a_notV, a_ifE, a_chain, a_nil, a_cons, a_lst, a_tup, a_call, a_cb, a_bm0, a_bm, a_sl, a_nopart, a_part, a_tyI, a_for, a_comp, a_ilist, a_itup, a_irng1, a_irng2, a_irng3, a_cxK, a_irev, a_ienum, a_cat, a_rep, a_pop, a_clear, a_rslL, a_ixL, a_ixT, a_setL, a_app]); (try simp only [a_fld, a_sfld, a_meth, a_make, a_maxD, a_inS, a_ipC, a_izip, a_tComp2, a_izipB, a_tryAs, a_drop_nx, a_raise, a_try, a_fst, a_compIf, a_next, a_brk, a_cnt, a_drop, a_ret, a_retN, a_if, a_asg, a_gname, a_gsub, a_gtup, a_gnil, a_gcons, a_aug, a_augS, a_ipI, a_var, a_c, a_op, a_un, a_rI, a_rI0, a_rU, a_eqI, a_neI, a_eqB, a_neB, a_tB, a_test, a_and, a_or, a_not, a_andV, a_orV, a_notV, a_ifE, a_chain, a_nil, a_cons, a_lst, a_tup, a_call, a_cb, a_bm0, a_bm, a_sl, a_nopart, a_part, a_tyI, a_for, a_comp, a_ilist, a_itup, a_irng1, a_irng2, a_irng3, a_cxK, and_assoc, a_irev, a_ienum, a_cat, a_rep, a_pop, a_clear, a_rslL, a_ixL, a_ixT, a_setL, a_app, List.getElem?_cons_zero, List.getElem?_cons_succ, List.set_cons_zero, List.set_cons_succ, Option.some.injEq, V.int.injEq, V.bl.injEq, V.ref.injEq, V.ty.injEq, exists_eq_left', exists_eq_left, exists_and_left, decide_eq_true_eq, List.cons_append, List.nil_append, List.append_nil, List.cons.injEq, and_true, true_and, Bool.not_eq_true', decide_eq_false_iff_not, ite_true, ite_false, Bool.false_eq_true, if_true, if_false, List.length_cons, List.length_nil, L2.start, List.map_cons, List.map_nil, List.replicate_succ, List.replicate_zero])))
theorem sc_trimmed : FnScope ["numbers", "size"] ["numbers"] (defScope s_trimmed) := ⟨rfl, rfl, rfl, by decide +kernel, rfl, by decide +kernel, by decide +kernel⟩
theorem sc_poly_times : FnScope ["one", "other", "answer", "low", "number", "place", "factor"] ["one", "other"] (defScope s_poly_times) := ⟨rfl, rfl, rfl, by decide +kernel, rfl, by decide +kernel, by decide +kernel⟩
theorem sc_shifted : FnScope ["poly", "by", "answer", "low", "place"] ["poly", "by"] (defScope s_shifted) := ⟨rfl, rfl, rfl, by decide +kernel, rfl, by decide +kernel, by decide +kernel⟩
theorem sc_poly_value : FnScope ["poly", "n", "answer", "number"] ["poly", "n"] (defScope s_poly_value) := ⟨rfl, rfl, rfl, by decide +kernel, rfl, by decide +kernel, by decide +kernel⟩
theorem sc_divisor : FnScope ["one", "other", "big", "small", "pair", "rest"] ["one", "other"] (defScope s_divisor) := ⟨rfl, rfl, rfl, by decide +kernel, rfl, by decide +kernel, by decide +kernel⟩
theorem sc_ratio : FnScope ["top", "bottom", "shared"] ["top", "bottom"] (defScope s_ratio) := ⟨rfl, rfl, rfl, by decide +kernel, rfl, by decide +kernel, by decide +kernel⟩
theorem sc_multiplied : FnScope ["one", "other"] ["one", "other"] (defScope s_multiplied) := ⟨rfl, rfl, rfl, by decide +kernel, rfl, by decide +kernel, by decide +kernel⟩
theorem sc_clear : FnScope ["poly", "m", "moved"] ["poly", "m"] (defScope s_clear) := ⟨rfl, rfl, rfl, by decide +kernel, rfl, by decide +kernel, by decide +kernel⟩
theorem sc_reach : FnScope ["poly", "m"] ["poly"] (defScope s_reach) := ⟨rfl, rfl, rfl, by decide +kernel, rfl, by decide +kernel, by decide +kernel⟩
theorem sc_order_of : FnScope ["rule", "poly"] ["rule"] (defScope s_order_of) := ⟨rfl, rfl, rfl, by decide +kernel, rfl, by decide +kernel, by decide +kernel⟩
theorem sc_need_of : FnScope ["rule", "order"] ["rule"] (defScope s_need_of) := ⟨rfl, rfl, rfl, by decide +kernel, rfl, by decide +kernel, by decide +kernel⟩
theorem sc_weighted : FnScope ["weight", "fraction", "shared"] ["weight", "fraction"] (defScope s_weighted) := ⟨rfl, rfl, rfl, by decide +kernel, rfl, by decide +kernel, by decide +kernel⟩
theorem sc_parted : FnScope ["fraction", "number", "shared"] ["fraction", "number"] (defScope s_parted) := ⟨rfl, rfl, rfl, by decide +kernel, rfl, by decide +kernel, by decide +kernel⟩
theorem sc_total : FnScope ["fractions", "live", "bottom", "fraction"] ["fractions"] (defScope s_total) := ⟨rfl, rfl, rfl, by decide +kernel, rfl, by decide +kernel, by decide +kernel⟩
theorem sc_rule_sum : FnScope ["rule", "values", "n", "ahead"] ["rule", "values", "n"] (defScope s_rule_sum) := ⟨rfl, rfl, rfl, by decide +kernel, rfl, by decide +kernel, by decide +kernel⟩
theorem sc_keeps : FnScope ["rule", "values", "n", "order"] ["rule", "values", "n"] (defScope s_keeps) := ⟨rfl, rfl, rfl, by decide +kernel, rfl, by decide +kernel, by decide +kernel⟩
theorem sc_check_first : FnScope ["rule", "first", "need", "n"] ["rule", "first"] (defScope s_check_first) := ⟨rfl, rfl, rfl, by decide +kernel, rfl, by decide +kernel, by decide +kernel⟩
theorem sc_next_value : FnScope ["rule", "values", "n"] ["rule", "values"] (defScope s_next_value) := ⟨rfl, rfl, rfl, by decide +kernel, rfl, by decide +kernel, by decide +kernel⟩
theorem sc_row_ahead : FnScope ["one", "by", "rule"] ["one", "by"] (defScope s_row_ahead) := ⟨rfl, rfl, rfl, by decide +kernel, rfl, by decide +kernel, by decide +kernel⟩
theorem sc_row_scaled : FnScope ["one", "fraction", "told"] ["one", "fraction"] (defScope s_row_scaled) := ⟨rfl, rfl, rfl, by decide +kernel, rfl, by decide +kernel, by decide +kernel⟩
theorem sc_poly_row : FnScope ["poly", "steps", "number"] ["poly"] (defScope s_poly_row) := ⟨rfl, rfl, rfl, by decide +kernel, rfl, by decide +kernel, by decide +kernel⟩
theorem sc_power_row : FnScope ["fraction"] ["fraction"] (defScope s_power_row) := ⟨rfl, rfl, rfl, by decide +kernel, rfl, by decide +kernel, by decide +kernel⟩
theorem sc__law_cell_at : FnScope ["_law_script", "_law_k"] ["_law_script", "_law_k"] (defScope s__law_cell_at) := ⟨rfl, rfl, rfl, by decide +kernel, rfl, by decide +kernel, by decide +kernel⟩
theorem sc__law_lowest : FnScope ["_law_top", "_law_bottom", "_law_one", "_law_other", "_law_rest"] ["_law_top", "_law_bottom"] (defScope s__law_lowest) := ⟨rfl, rfl, rfl, by decide +kernel, rfl, by decide +kernel, by decide +kernel⟩
theorem sc__law_number : FnScope ["_law_cell"] ["_law_cell"] (defScope s__law_number) := ⟨rfl, rfl, rfl, by decide +kernel, rfl, by decide +kernel, by decide +kernel⟩
theorem sc__law_value : FnScope ["_law_poly", "_law_n", "_law_found", "_law_number_here"] ["_law_poly", "_law_n"] (defScope s__law_value) := ⟨rfl, rfl, rfl, by decide +kernel, rfl, by decide +kernel, by decide +kernel⟩
theorem sc__law_moved : FnScope ["_law_poly", "_law_by", "_law_found", "_law_low", "_law_at"] ["_law_poly", "_law_by"] (defScope s__law_moved) := ⟨rfl, rfl, rfl, by decide +kernel, rfl, by decide +kernel, by decide +kernel⟩
theorem sc__law_reach : FnScope ["_law_poly", "_law_m", "_law_moved_here"] ["_law_poly"] (defScope s__law_reach) := ⟨rfl, rfl, rfl, by decide +kernel, rfl, by decide +kernel, by decide +kernel⟩
theorem sc__law_rule : FnScope ["_law_script", "_law_cell", "_law_scale", "_law_first", "_law_last", "_law_m", "_law_found", "_law_poly", "_law_more", "_law_k"] ["_law_script"] (defScope s__law_rule) := ⟨rfl, rfl, rfl, by decide +kernel, rfl, by decide +kernel, by decide +kernel⟩
theorem sc__law_next : FnScope ["_law_rule_here", "_law_values_here", "_law_free", "_law_n", "_law_last"] ["_law_rule_here", "_law_values_here", "_law_free"] (defScope s__law_next) := ⟨rfl, rfl, rfl, by decide +kernel, rfl, by decide +kernel, by decide +kernel⟩
theorem sc__law_values : FnScope ["_law_script", "_law_rule_here", "_law_many", "_law_found"] ["_law_script", "_law_rule_here", "_law_many"] (defScope s__law_values) := ⟨rfl, rfl, rfl, by decide +kernel, rfl, by decide +kernel, by decide +kernel⟩
theorem sc__law_is : FnScope ["_law_found", "_law_due", "_law_one", "_law_right"] ["_law_found", "_law_due"] (defScope s__law_is) := ⟨rfl, rfl, rfl, by decide +kernel, rfl, by decide +kernel, by decide +kernel⟩
theorem sc__law_row : FnScope ["_law_row_here", "_law_rule_here", "_law_first", "_law_due", "_law_n"] ["_law_row_here", "_law_rule_here", "_law_first", "_law_due"] (defScope s__law_row) := ⟨rfl, rfl, rfl, by decide +kernel, rfl, by decide +kernel, by decide +kernel⟩
theorem sc__law_ready : FnScope ["_law_script", "_law_fraction", "_law_poly", "_law_steps", "_law_due", "_law_handed", "_law_n", "_law_first"] ["_law_script", "_law_fraction"] (defScope s__law_ready) := ⟨rfl, rfl, rfl, by decide +kernel, rfl, by decide +kernel, by decide +kernel⟩
theorem sc_law : FnScope ["_law_script", "_law_rule_here", "_law_by", "_law_many", "_law_xs", "_law_row_here", "_law_fraction", "_law_moved_here", "_law_some", "_law_products"] ["_law_script"] (defScope s_law) := ⟨rfl, rfl, rfl, by decide +kernel, rfl, by decide +kernel, by decide +kernel⟩
theorem sc_Row___init__ : FnScope ["self", "rule", "first"] ["self", "rule", "first"] (defScope s_Row___init__) := ⟨rfl, rfl, rfl, by decide +kernel, rfl, by decide +kernel, by decide +kernel⟩
theorem sc_Row_at : FnScope ["self", "n"] ["self", "n"] (defScope s_Row_at) := ⟨rfl, rfl, rfl, by decide +kernel, rfl, by decide +kernel, by decide +kernel⟩
theorem sc_Row_told : FnScope ["self"] ["self"] (defScope s_Row_told) := ⟨rfl, rfl, rfl, by decide +kernel, rfl, by decide +kernel, by decide +kernel⟩
set_option genInjectivity false in
set_option genSizeOf false in
structure Tx (K : PySem.W.Frag) (mg : Str → Option Value) where
  a_trimmed : Addr
  fd_trimmed : FuncData
  F_trimmed : Fun K "trimmed" "trimmed" s_trimmed a_trimmed fd_trimmed
  m_trimmed : mg "trimmed" = some (.ref a_trimmed)
  b_trimmed : Binds K fd_trimmed ["numbers"] []
  a_poly_times : Addr
  fd_poly_times : FuncData
  F_poly_times : Fun K "poly_times" "poly_times" s_poly_times a_poly_times fd_poly_times
  m_poly_times : mg "poly_times" = some (.ref a_poly_times)
  b_poly_times : Binds K fd_poly_times ["one", "other"] []
  a_shifted : Addr
  fd_shifted : FuncData
  F_shifted : Fun K "shifted" "shifted" s_shifted a_shifted fd_shifted
  m_shifted : mg "shifted" = some (.ref a_shifted)
  b_shifted : Binds K fd_shifted ["poly", "by"] []
  a_poly_value : Addr
  fd_poly_value : FuncData
  F_poly_value : Fun K "poly_value" "poly_value" s_poly_value a_poly_value fd_poly_value
  m_poly_value : mg "poly_value" = some (.ref a_poly_value)
  b_poly_value : Binds K fd_poly_value ["poly", "n"] []
  a_divisor : Addr
  fd_divisor : FuncData
  F_divisor : Fun K "divisor" "divisor" s_divisor a_divisor fd_divisor
  m_divisor : mg "divisor" = some (.ref a_divisor)
  b_divisor : Binds K fd_divisor ["one", "other"] []
  a_ratio : Addr
  fd_ratio : FuncData
  F_ratio : Fun K "ratio" "ratio" s_ratio a_ratio fd_ratio
  m_ratio : mg "ratio" = some (.ref a_ratio)
  b_ratio : Binds K fd_ratio ["top", "bottom"] []
  a_multiplied : Addr
  fd_multiplied : FuncData
  F_multiplied : Fun K "multiplied" "multiplied" s_multiplied a_multiplied fd_multiplied
  m_multiplied : mg "multiplied" = some (.ref a_multiplied)
  b_multiplied : Binds K fd_multiplied ["one", "other"] []
  a_clear : Addr
  fd_clear : FuncData
  F_clear : Fun K "clear" "clear" s_clear a_clear fd_clear
  m_clear : mg "clear" = some (.ref a_clear)
  b_clear : Binds K fd_clear ["poly", "m"] []
  a_reach : Addr
  fd_reach : FuncData
  F_reach : Fun K "reach" "reach" s_reach a_reach fd_reach
  m_reach : mg "reach" = some (.ref a_reach)
  b_reach : Binds K fd_reach ["poly"] []
  a_order_of : Addr
  fd_order_of : FuncData
  F_order_of : Fun K "order_of" "order_of" s_order_of a_order_of fd_order_of
  m_order_of : mg "order_of" = some (.ref a_order_of)
  b_order_of : Binds K fd_order_of ["rule"] []
  a_need_of : Addr
  fd_need_of : FuncData
  F_need_of : Fun K "need_of" "need_of" s_need_of a_need_of fd_need_of
  m_need_of : mg "need_of" = some (.ref a_need_of)
  b_need_of : Binds K fd_need_of ["rule"] []
  a_weighted : Addr
  fd_weighted : FuncData
  F_weighted : Fun K "weighted" "weighted" s_weighted a_weighted fd_weighted
  m_weighted : mg "weighted" = some (.ref a_weighted)
  b_weighted : Binds K fd_weighted ["weight", "fraction"] []
  a_parted : Addr
  fd_parted : FuncData
  F_parted : Fun K "parted" "parted" s_parted a_parted fd_parted
  m_parted : mg "parted" = some (.ref a_parted)
  b_parted : Binds K fd_parted ["fraction", "number"] []
  a_total : Addr
  fd_total : FuncData
  F_total : Fun K "total" "total" s_total a_total fd_total
  m_total : mg "total" = some (.ref a_total)
  b_total : Binds K fd_total ["fractions"] []
  a_rule_sum : Addr
  fd_rule_sum : FuncData
  F_rule_sum : Fun K "rule_sum" "rule_sum" s_rule_sum a_rule_sum fd_rule_sum
  m_rule_sum : mg "rule_sum" = some (.ref a_rule_sum)
  b_rule_sum : Binds K fd_rule_sum ["rule", "values", "n"] []
  a_keeps : Addr
  fd_keeps : FuncData
  F_keeps : Fun K "keeps" "keeps" s_keeps a_keeps fd_keeps
  m_keeps : mg "keeps" = some (.ref a_keeps)
  b_keeps : Binds K fd_keeps ["rule", "values", "n"] []
  a_check_first : Addr
  fd_check_first : FuncData
  F_check_first : Fun K "check_first" "check_first" s_check_first a_check_first fd_check_first
  m_check_first : mg "check_first" = some (.ref a_check_first)
  b_check_first : Binds K fd_check_first ["rule", "first"] []
  a_next_value : Addr
  fd_next_value : FuncData
  F_next_value : Fun K "next_value" "next_value" s_next_value a_next_value fd_next_value
  m_next_value : mg "next_value" = some (.ref a_next_value)
  b_next_value : Binds K fd_next_value ["rule", "values"] []
  a_row_ahead : Addr
  fd_row_ahead : FuncData
  F_row_ahead : Fun K "row_ahead" "row_ahead" s_row_ahead a_row_ahead fd_row_ahead
  m_row_ahead : mg "row_ahead" = some (.ref a_row_ahead)
  b_row_ahead : Binds K fd_row_ahead ["one", "by"] []
  a_row_scaled : Addr
  fd_row_scaled : FuncData
  F_row_scaled : Fun K "row_scaled" "row_scaled" s_row_scaled a_row_scaled fd_row_scaled
  m_row_scaled : mg "row_scaled" = some (.ref a_row_scaled)
  b_row_scaled : Binds K fd_row_scaled ["one", "fraction"] []
  a_poly_row : Addr
  fd_poly_row : FuncData
  F_poly_row : Fun K "poly_row" "poly_row" s_poly_row a_poly_row fd_poly_row
  m_poly_row : mg "poly_row" = some (.ref a_poly_row)
  b_poly_row : Binds K fd_poly_row ["poly"] []
  a_power_row : Addr
  fd_power_row : FuncData
  F_power_row : Fun K "power_row" "power_row" s_power_row a_power_row fd_power_row
  m_power_row : mg "power_row" = some (.ref a_power_row)
  b_power_row : Binds K fd_power_row ["fraction"] []
  a__law_cell_at : Addr
  fd__law_cell_at : FuncData
  F__law_cell_at : Fun K "_law_cell_at" "_law_cell_at" s__law_cell_at a__law_cell_at fd__law_cell_at
  m__law_cell_at : mg "_law_cell_at" = some (.ref a__law_cell_at)
  b__law_cell_at : Binds K fd__law_cell_at ["_law_script", "_law_k"] []
  a__law_lowest : Addr
  fd__law_lowest : FuncData
  F__law_lowest : Fun K "_law_lowest" "_law_lowest" s__law_lowest a__law_lowest fd__law_lowest
  m__law_lowest : mg "_law_lowest" = some (.ref a__law_lowest)
  b__law_lowest : Binds K fd__law_lowest ["_law_top", "_law_bottom"] []
  a__law_number : Addr
  fd__law_number : FuncData
  F__law_number : Fun K "_law_number" "_law_number" s__law_number a__law_number fd__law_number
  m__law_number : mg "_law_number" = some (.ref a__law_number)
  b__law_number : Binds K fd__law_number ["_law_cell"] []
  a__law_value : Addr
  fd__law_value : FuncData
  F__law_value : Fun K "_law_value" "_law_value" s__law_value a__law_value fd__law_value
  m__law_value : mg "_law_value" = some (.ref a__law_value)
  b__law_value : Binds K fd__law_value ["_law_poly", "_law_n"] []
  a__law_moved : Addr
  fd__law_moved : FuncData
  F__law_moved : Fun K "_law_moved" "_law_moved" s__law_moved a__law_moved fd__law_moved
  m__law_moved : mg "_law_moved" = some (.ref a__law_moved)
  b__law_moved : Binds K fd__law_moved ["_law_poly", "_law_by"] []
  a__law_reach : Addr
  fd__law_reach : FuncData
  F__law_reach : Fun K "_law_reach" "_law_reach" s__law_reach a__law_reach fd__law_reach
  m__law_reach : mg "_law_reach" = some (.ref a__law_reach)
  b__law_reach : Binds K fd__law_reach ["_law_poly"] []
  a__law_rule : Addr
  fd__law_rule : FuncData
  F__law_rule : Fun K "_law_rule" "_law_rule" s__law_rule a__law_rule fd__law_rule
  m__law_rule : mg "_law_rule" = some (.ref a__law_rule)
  b__law_rule : Binds K fd__law_rule ["_law_script"] []
  a__law_next : Addr
  fd__law_next : FuncData
  F__law_next : Fun K "_law_next" "_law_next" s__law_next a__law_next fd__law_next
  m__law_next : mg "_law_next" = some (.ref a__law_next)
  b__law_next : Binds K fd__law_next ["_law_rule_here", "_law_values_here", "_law_free"] []
  a__law_values : Addr
  fd__law_values : FuncData
  F__law_values : Fun K "_law_values" "_law_values" s__law_values a__law_values fd__law_values
  m__law_values : mg "_law_values" = some (.ref a__law_values)
  b__law_values : Binds K fd__law_values ["_law_script", "_law_rule_here", "_law_many"] []
  a__law_is : Addr
  fd__law_is : FuncData
  F__law_is : Fun K "_law_is" "_law_is" s__law_is a__law_is fd__law_is
  m__law_is : mg "_law_is" = some (.ref a__law_is)
  b__law_is : Binds K fd__law_is ["_law_found", "_law_due"] []
  a__law_row : Addr
  fd__law_row : FuncData
  F__law_row : Fun K "_law_row" "_law_row" s__law_row a__law_row fd__law_row
  m__law_row : mg "_law_row" = some (.ref a__law_row)
  b__law_row : Binds K fd__law_row ["_law_row_here", "_law_rule_here", "_law_first", "_law_due"] []
  a__law_ready : Addr
  fd__law_ready : FuncData
  F__law_ready : Fun K "_law_ready" "_law_ready" s__law_ready a__law_ready fd__law_ready
  m__law_ready : mg "_law_ready" = some (.ref a__law_ready)
  b__law_ready : Binds K fd__law_ready ["_law_script", "_law_fraction"] []
  a_law : Addr
  fd_law : FuncData
  F_law : Fun K "law" "law" s_law a_law fd_law
  m_law : mg "law" = some (.ref a_law)
  b_law : Binds K fd_law ["_law_script"] []
  a_Row___init__ : Addr
  fd_Row___init__ : FuncData
  F_Row___init__ : Fun K "__init__" "Row.__init__" s_Row___init__ a_Row___init__ fd_Row___init__
  b_Row___init__ : Binds K fd_Row___init__ ["self", "rule", "first"] []
  a_Row_at : Addr
  fd_Row_at : FuncData
  F_Row_at : Fun K "at" "Row.at" s_Row_at a_Row_at fd_Row_at
  b_Row_at : Binds K fd_Row_at ["self", "n"] []
  a_Row_told : Addr
  fd_Row_told : FuncData
  F_Row_told : Fun K "told" "Row.told" s_Row_told a_Row_told fd_Row_told
  b_Row_told : Binds K fd_Row_told ["self"] []
  c_NoNumber : Addr
  mc_NoNumber : mg "NoNumber" = some (.ref c_NoNumber)
  xc_NoNumber : PySem.W.excIn K c_NoNumber bmV "ValueError.__new__" = true
  c_TooGreat : Addr
  mc_TooGreat : mg "TooGreat" = some (.ref c_TooGreat)
  xc_TooGreat : PySem.W.excIn K c_TooGreat bmV "ValueError.__new__" = true
  c_NoRule : Addr
  mc_NoRule : mg "NoRule" = some (.ref c_NoRule)
  xc_NoRule : PySem.W.excIn K c_NoRule bmV "ValueError.__new__" = true
  c_NoPlace : Addr
  mc_NoPlace : mg "NoPlace" = some (.ref c_NoPlace)
  xc_NoPlace : PySem.W.excIn K c_NoPlace bmV "ValueError.__new__" = true
  c_Row : Addr
  mc_Row : mg "Row" = some (.ref c_Row)
  cl_Row : Cls K c_Row
  mk_Row : Mk K c_Row a_Row___init__
  me_Row_at : Meth K c_Row "at" a_Row_at
  me_Row_told : Meth K c_Row "told" a_Row_told
  na_Row_known : NoAttr K c_Row "known"
  na_Row_rule : NoAttr K c_Row "rule"
  z_len : mg "len" = none
  z_list : mg "list" = none
  z_enumerate : mg "enumerate" = none
  z_range : mg "range" = none
  z_reversed : mg "reversed" = none
  z_abs : mg "abs" = none
  z_min : mg "min" = none
  z_max : mg "max" = none
  z_sum : mg "sum" = none
  z_zip : mg "zip" = none
  z_isinstance : mg "isinstance" = none
  z_int : mg "int" = none
  z_tuple : mg "tuple" = none
  z_bool : mg "bool" = none
  g_LONG : { t : Tok // mg "LONG" = some (.int 4000 t) }
  g_FARTHEST : { t : Tok // mg "FARTHEST" = some (.int 60 t) }
  g_FARTHEST_AHEAD : { t : Tok // mg "FARTHEST_AHEAD" = some (.int 60 t) }
  g_MOST_NUMBERS : { t : Tok // mg "MOST_NUMBERS" = some (.int 5 t) }
  g_FARTHEST_PLACE : { t : Tok // mg "FARTHEST_PLACE" = some (.int 400 t) }
theorem abs_nat (a : Int) : (if a < 0 then -a else a) = ((a.natAbs : Nat) : Int) := by split <;> omega
def spGcd : Sp := fun vs H Q _ => ∃ a b : Int, vs = [.int a, .int b] ∧ b.natAbs < 2 ^ 4000 ∧ Q (.int (Nat.gcd a.natAbs b.natAbs : Nat)) H
theorem bits_le {b : Int} (h : b.natAbs < 2 ^ 4000) : ¬ (4000 : Int) < ((Builtin.Int.intBits ((b.natAbs : Nat) : Int) : Nat) : Int) := by
  have := intBits_le_of (i := ((b.natAbs : Nat) : Int)) (k := 4000) (by rw [Int.natAbs_natCast]; exact h)
  omega
theorem ok_divisor {P : Program} {w : World} {K : PySem.W.Frag} {mg : Str → Option Value} {base : Heap} (T : Tx K mg) : FnOk P w K mg base CX0 1 T.a_divisor T.fd_divisor ["one", "other"] spGcd := by
  refine T.F_divisor.ok sc_divisor (fun vs H Q E h => ?_) (fun cdv A outer s H vs Q E hr h => ?_)
  · obtain ⟨a, b, rfl, _⟩ := h
    rfl
  obtain ⟨a, b, rfl, hb, q⟩ := h
  refine ⟨_, ((pss_cons (ps_set (i := 2) sc_divisor.nd rfl (Or.inl rfl) (pe_callB call_abs rfl T.z_abs bt_abs (pa_cons (pv 0) pa_nil)))
    (pss_cons (ps_set (i := 3) sc_divisor.nd rfl (Or.inl rfl) (pe_callB call_abs rfl T.z_abs bt_abs (pa_cons (pv 1) pa_nil)))
    (pss_cons (ps_while PassesOwn.never (pt_cmpR op_gt (pe_bm0 PySem.F.plainAttrs_int PySem.F.slot_int_bit_length PySem.F.type_int_bit_length mt_bitlen (pv 3)) (pe_glob (v := .int 4000) rfl T.g_LONG.2 ⟨_, rfl⟩) (nomark _)) pss_never)
    (pss_cons (ps_while PassesOwn.never (pt_cmpR op_ne (pv 3) pe_int (nomark _)) (pss_cons (ps_set (i := 5) sc_divisor.nd rfl (Or.inl rfl) (pe_op op_mod (pv 2) (pv 3)))
    (pss_cons (ps_set (i := 2) sc_divisor.nd rfl (Or.inl rfl) (pv 3))
    (pss_one (ps_set (i := 3) sc_divisor.nd rfl (Or.inl rfl) (pv 5))))))
    (pss_one (ps_ret (pv 2)))))))), ?_⟩
  (iterate 3 (k_units; (try simp only [abs_nat])); k_units)
  refine while_of (fun m σ H' => σ = [some (V.int a), some (V.int b), some (V.int a.natAbs), some (V.int b.natAbs), none, none] ∧ H' = H) 0 ⟨rfl, rfl⟩ ?_
  rintro m σ H' ⟨rfl, rfl⟩
  k_units
  rw [if_neg (bits_le hb)]
  refine while_of (fun m σ H1 => ∃ (x y : Nat) (r : Option V), σ = [some (V.int a), some (V.int b), some (.int x), some (.int y), none, r] ∧ H1 = H' ∧ m = y ∧ Nat.gcd x y = Nat.gcd a.natAbs b.natAbs) b.natAbs ⟨a.natAbs, b.natAbs, none, rfl, rfl, rfl, rfl⟩ ?_
  rintro m σ H1 ⟨x, y, r, rfl, rfl, rfl, hg⟩
  k_units
  refine ite2 (fun h => ?_) (fun h => ?_)
  · refine ⟨fun σ' H2 => σ' = [some (V.int a), some (V.int b), some (V.int m), some (V.int ((x : Int) % (m : Int))), none, some (V.int ((x : Int) % (m : Int)))] ∧ H2 = H1, ?_, by omega, rfl, rfl⟩
    rintro σ' H2 ⟨rfl, rfl⟩
    refine ⟨x % m, Nat.mod_lt _ (by omega), m, x % m, _, by rw [← Int.natCast_emod], rfl, rfl, ?_⟩
    rw [Nat.gcd_comm m, ← Nat.gcd_rec, Nat.gcd_comm]; exact hg
  · have h0 : m = 0 := by omega
    subst h0
    rw [Nat.gcd_zero_right] at hg
    rw [hg]; exact q
def spTrim (K : PySem.W.Frag) : Sp := fun vs H Q _ => ∃ (a : Addr) (xs : List Int), vs = [.ref a] ∧ SqL K H a (xs.map V.int) ∧ xs.length ≤ 1000 ∧ newL H Q ((trim xs).map V.int)
theorem ok_trimmed {P : Program} {w : World} {K : PySem.W.Frag} {mg : Str → Option Value} {base : Heap} (T : Tx K mg) : FnOk P w K mg base CX0 1 T.a_trimmed T.fd_trimmed ["numbers"] (spTrim K) := by
  refine T.F_trimmed.ok sc_trimmed (fun vs H Q E h => ?_) (fun cdv A outer s H vs Q E hr h => ?_)
  · obtain ⟨a, xs, rfl, _⟩ := h
    rfl
  obtain ⟨a, xs, rfl, hS, hl, q⟩ := h
  refine ⟨_, ((pss_cons (ps_set (i := 1) sc_trimmed.nd rfl (Or.inl rfl) (pe_callB call_len_seq rfl T.z_len bt_len (pa_cons (pv 0) pa_nil)))
    (pss_cons (ps_while PassesOwn.never (PW.pt (pw_and (pt_cmpR op_gt (pv 1) pe_int (nomark _)) (pw_and1 (pt_cmpR op_eq (pe_ix ix_list (pv 0) (pe_op op_sub (pv 1) pe_int) (fun _ _ => rfl)) pe_int (nomark _))))) (pss_one (ps_aug (i := 1) sc_trimmed.nd rfl (Or.inl rfl) pe_int ip_sub)))
    (pss_one (ps_ret (pe_callTy call_list_of rfl T.z_list bt_list (pa_cons (pe_slice sl_list (pv 0) po_none (po_some (pv 1))) pa_nil))))))), ?_⟩
  k_units
  refine ⟨_, .inl hS, ?_⟩
  rw [List.length_map]
  refine while_of (fun m σ H' => m ≤ xs.length ∧ σ = [some (.ref a), some (.int (m : Int))] ∧ H' = H ∧ ∀ k, m ≤ k → co xs k = 0) xs.length ⟨Nat.le_refl _, rfl, rfl, fun k hk => co_ge hk⟩ ?_
  have fin : ∀ n : Nat, n ≤ xs.length → trim xs = xs.take n → ∃ x, SqL K H a x ∧ ∀ p, H p = none → ∃ x1, (SqL K (upd H p (.lst (cutV x none (some (n : Int))))) p x1 ∨ SqT K (upd H p (.lst (cutV x none (some (n : Int))))) p x1) ∧
      ∀ l, upd H p (.lst (cutV x none (some (n : Int)))) l = none → Q (.ref l) (upd (upd H p (.lst (cutV x none (some (n : Int))))) l (.lst x1)) := by
    intro n hn e
    refine ⟨_, hS, fun p hp => ⟨_, .inl (SqL.of upd_same), fun r hr' => ?_⟩⟩
    rw [cutV_map] at hr' ⊢
    have e2 : ((xs.drop (HT.sIx xs.length 0 none)).take (HT.sIx xs.length xs.length (some ((n : Nat) : Int)) - HT.sIx xs.length 0 none)) = trim xs := by
      rw [HT.sIx_nat, HT.sIx_none, List.drop_zero, e, Nat.min_eq_left hn]; rfl
    rw [e2] at hr' ⊢
    exact q r _ ((same_upd hp _).trans (same_upd hr' _)) ((same_upd hp _).free hr') upd_same
  rintro m σ H' ⟨hm, rfl, rfl, hz⟩
  cases m with
  | zero =>
    k_units
    rw [if_neg (by simp)]
    exact fin 0 (Nat.zero_le _) (trim_take (Nat.zero_le _) hz (.inl rfl))
  | succ m =>
    have e1 : ((m + 1 : Nat) : Int) - 1 = (m : Int) := by omega
    (iterate 3 (k_units; (try simp only [e1])); k_units)
    rw [if_pos (by omega)]
    refine ⟨_, hS, _, at_int (by omega), ?_⟩
    k_units
    refine ite2 (fun h => ?_) (fun h => ?_)
    · refine ⟨fun σ' H1 => σ' = [some (V.ref a), some (V.int (m : Int))] ∧ H1 = H', ?_, rfl, rfl⟩
      rintro σ' H1 ⟨rfl, rfl⟩
      refine ⟨m, Nat.lt_succ_self _, by omega, rfl, rfl, fun k hk => ?_⟩
      by_cases e : k = m
      · rw [e, co_lt (by omega)]; exact h
      · exact hz k (by omega)
    · exact fin (m + 1) hm (trim_take hm hz (.inr (by show co xs m ≠ 0; rw [co_lt (by omega)]; exact h)))
def spShift (K : PySem.W.Frag) : Sp := fun vs H Q _ => ∃ (a : Addr) (xs : List Int) (b : Int) (k l : Nat), vs = [.ref a, .int b] ∧ SqL K H a (xs.map V.int) ∧ xs.length ≤ 64 ∧ (∀ x ∈ xs, Bd k x) ∧ Bd l b ∧ k + l * 5000 ≤ 60000000 ∧ newL H Q ((trim (shiftL b xs)).map V.int)
theorem ok_shifted {P : Program} {w : World} {K : PySem.W.Frag} {mg : Str → Option Value} {base : Heap} (T : Tx K mg) : FnOk P w K mg base CX0 2 T.a_shifted T.fd_shifted ["poly", "by"] (spShift K) := by
  refine T.F_shifted.ok sc_shifted (fun vs H Q E h => ?_) (fun cdv A outer s H vs Q E hr h => ?_)
  · obtain ⟨a, xs, b, k, l, rfl, _⟩ := h
    rfl
  obtain ⟨a, xs, b, k, l, rfl, hS, hl, hk, hb, hf, q⟩ := h
  refine ⟨_, ((pss_cons (ps_set (i := 2) sc_shifted.nd rfl (Or.inl rfl) (pe_callTy call_list_of rfl T.z_list bt_list (pa_cons (pv 0) pa_nil)))
    (pss_cons (ps_for PassesOwn.never rfl (pi_range1 rfl T.z_range (pa_cons (pe_op op_sub (pe_callB call_len_seq rfl T.z_len bt_len (pa_cons (pv 2) pa_nil)) pe_int) pa_nil)) (pg_name (i := 3) sc_shifted.nd rfl (Or.inl rfl)) (pss_one (ps_for PassesOwn.never rfl (pi_range3 rfl T.z_range (pa_cons (pe_op op_sub (pe_callB call_len_seq rfl T.z_len bt_len (pa_cons (pv 2) pa_nil)) pe_int) (pa_cons (pe_op op_sub (pv 3) pe_int) (pa_cons (pe_un un_neg pe_int) pa_nil)))) (pg_name (i := 4) sc_shifted.nd rfl (Or.inl rfl)) (pss_one (ps_augS (pv 2) (pv 4) get_list (pe_op op_mulZ (pv 1) (pe_ix ix_list (pv 2) (pe_op op_add (pv 4) pe_int) (fun _ _ => rfl))) ip_add set_list)))))
    (pss_one (ps_ret (pe_call (FnOk.mono (ok_trimmed T) (by decide)) hr rfl T.m_trimmed T.F_trimmed.kp T.b_trimmed .nil pass0 (pa_cons (pv 2) pa_nil))))))), ?_⟩
  k_units
  refine ⟨_, .inl hS, fun L hL => ⟨_, .inl (SqL.of upd_same), by rw [List.length_map]; omega, by rw [List.length_map]; omega, ?_⟩⟩
  have e0 : (((xs.map V.int).length : Nat) : Int) - 1 = (xs.length : Int) - 1 := by rw [List.length_map]
  have e1 : ((xs.length : Int) - 1).toNat = xs.length - 1 := by omega
  rw [e0, e1]
  obtain ⟨Pv, hPv⟩ : ∃ Pv : Nat → L2.St → Hp → Prop, ∀ i σ H', Pv i σ H' ↔ ∃ r1 r2 pre zs, σ = [some (V.ref a), some (V.int b), some (V.ref L), r1, r2] ∧ H' = upd H L (.lst ((pre ++ zs).map V.int)) ∧ pre.length = i ∧ pre.length + zs.length = xs.length ∧
    shiftL b xs = pre ++ shiftN b zs.length zs ∧ ∀ y ∈ pre ++ zs, Bd (k + (l + 1) * (i * 64)) y := ⟨_, fun _ _ _ => Iff.rfl⟩
  refine lp_range Pv ((hPv _ _ _).mpr ⟨none, none, [], xs, rfl, rfl, rfl, by simp, rfl, fun y hy => (hk y hy).mono (by omega)⟩) ?_ ?_
  · intro low σ H' hlow hp
    obtain ⟨r1, r2, pre, zs, rfl, rfl, hpre, hlen, hsh, hbd⟩ := (hPv _ _ _).mp hp
    have el : (0 : Int) + (low : Int) = (low : Int) := Int.zero_add _
    (iterate 3 (k_units; (try simp only [el])); k_units)
    obtain ⟨m, hm⟩ : ∃ m, zs.length = m + 1 := ⟨zs.length - 1, by omega⟩
    have hy : ((pre ++ zs).map V.int).length = xs.length := by rw [List.length_map, List.length_append]; exact hlen
    refine ⟨_, .inl (SqL.of upd_same), by decide, by decide, ?_⟩
    rw [hy]
    refine ⟨small_down (by omega) (by omega) (by omega) (by omega), m, size_down (by omega), ?_⟩
    obtain ⟨Pw, hPw⟩ : ∃ Pw : Nat → L2.St → Hp → Prop, ∀ t σ H', Pw t σ H' ↔ ∃ r, σ = [some (V.ref a), some (V.int b), some (V.ref L), some (V.int (low : Int)), r] ∧ H' = upd H L (.lst ((pre ++ mixed b zs (m - t)).map V.int)) ∧
      ∀ y ∈ pre ++ mixed b zs (m - t), Bd (k + (l + 1) * (low * 64 + t)) y := ⟨_, fun _ _ _ => Iff.rfl⟩
    have hz : zs ≠ [] := by intro z; rw [z] at hm; simp at hm
    refine lp_ranges Pw ((hPw _ _ _).mpr ⟨r2, rfl, ?_, ?_⟩) ?_ ?_
    · rw [show m - 0 = zs.length - 1 by omega, mixed_last b zs hz]
    · rw [show m - 0 = zs.length - 1 by omega, mixed_last b zs hz]; exact hbd
    · intro t σ H' ht hp
      obtain ⟨r, rfl, rfl, hbt⟩ := (hPw _ _ _).mp hp
      obtain ⟨j, hj⟩ : ∃ j, m - t = j + 1 := ⟨m - t - 1, by omega⟩
      have ej : m - (t + 1) = j := by omega
      have ep : (xs.length : Int) - 2 + (t : Int) * -1 = ((low + j : Nat) : Int) := by omega
      have ep1 : (xs.length : Int) - 2 + (t : Int) * -1 + 1 = ((low + j + 1 : Nat) : Int) := by omega
      rw [hj] at hbt ⊢
      have hjz : j < zs.length := by omega
      have g0 : (pre ++ mixed b zs (j + 1))[low + j]? = some zs[j] := by
        rw [List.getElem?_append_right (by omega), show low + j - pre.length = j by omega]; exact mixed_at b zs j hjz
      have g1 : (pre ++ mixed b zs (j + 1))[low + j + 1]? = some (hd (synth b (zs.drop (j + 1)))) := by
        rw [List.getElem?_append_right (by omega), show low + j + 1 - pre.length = j + 1 by omega]; exact mixed_next b zs j (by omega)
      have gs : (pre ++ mixed b zs (j + 1)).set (low + j) (zs[j] + b * hd (synth b (zs.drop (j + 1)))) = pre ++ mixed b zs j := by
        rw [List.set_append_right _ _ (by omega), show low + j - pre.length = j by omega, mixed_set b zs j hjz]
      have b0 := hbt _ (List.mem_of_getElem? g0)
      have b1 := hbt _ (List.mem_of_getElem? g1)
      (iterate 3 (k_units; (try simp only [ep, ep1])); k_units)
      have t64 : (l + 1) * (low * 64 + t) ≤ l * 4097 + 4097 := by have := Nat.mul_le_mul_left (l + 1) (by omega : low * 64 + t ≤ 4097); omega
      refine ⟨_, SqL.of upd_same, _, at_some g0, _, SqL.of upd_same, _, at_some g1, _, rfl, hb.fits b1 (by omega), _, rfl, _, upd_same, low + j, ixN_nat (by rw [List.length_map, List.length_append, mixed_len]; omega), (hPw _ _ _).mpr ⟨_, rfl, ?_, ?_⟩⟩
      · rw [upd_upd, map_set, gs, ej]
      · rw [ej, ← gs]
        intro y hy
        have e64 : (l + 1) * (low * 64 + (t + 1)) = (l + 1) * (low * 64 + t) + (l + 1) := by rw [← Nat.add_assoc, Nat.mul_succ]
        rcases List.mem_or_eq_of_mem_set hy with z | z
        · exact (hbt y z).mono (by omega)
        · rw [z]
          exact ((b0.mono (by omega : k + (l + 1) * (low * 64 + t) ≤ l + (k + (l + 1) * (low * 64 + t)))).add (hb.mul b1)).mono (by omega)
    · intro σ H' hp
      obtain ⟨r, rfl, rfl, hbt⟩ := (hPw _ _ _).mp hp
      rw [Nat.sub_self, mixed_zero] at hbt ⊢
      obtain ⟨s1, s2, s3⟩ := shift_turn b m zs hm
      rw [hm, s1] at hsh
      refine (hPv _ _ _).mpr ⟨_, _, pre ++ [hd (synth b zs)], (synth b zs).tail, rfl, ?_, by rw [List.length_append, hpre]; rfl, by rw [List.length_append, s3, List.length_singleton]; omega, by rw [hsh, s3, List.append_assoc]; rfl, ?_⟩
      · rw [List.append_assoc, List.singleton_append, ← s2]
      · rw [List.append_assoc, List.singleton_append, ← s2]
        have e64 : (l + 1) * ((low + 1) * 64) = (l + 1) * (low * 64 + 64) := by congr 1; omega
        have := Nat.mul_le_mul_left (l + 1) (by omega : low * 64 + m ≤ low * 64 + 64)
        exact fun y hy => (hbt y hy).mono (by omega)
  · intro σ H' hp
    obtain ⟨r1, r2, pre, zs, rfl, rfl, hpre, hlen, hsh, hbd⟩ := (hPv _ _ _).mp hp
    have fin : pre ++ zs = shiftL b xs := by
      rw [hsh]
      by_cases h0 : xs.length = 0
      · have : zs.length = 0 := by omega
        rw [List.eq_nil_of_length_eq_zero this]; rfl
      · have h1 : zs.length = 1 := by omega
        obtain ⟨c, rfl⟩ := List.length_eq_one_iff.mp h1
        rw [show [c].length = 1 from rfl, shift_one]
    rw [fin]
    k_units
    refine ⟨_, _, rfl, SqL.of upd_same, by rw [shift_len]; omega, fun r H' hs hn he => ?_⟩
    have s1 := same_upd hL (.lst ((shiftL b xs).map V.int))
    exact q r H' (s1.trans hs) (s1.free hn) he
def spValue (K : PySem.W.Frag) : Sp := fun vs H Q _ => ∃ (a : Addr) (xs : List Int) (n : Int) (k l : Nat), vs = [.ref a, .int n] ∧ SqL K H a (xs.map V.int) ∧ xs.length ≤ 64 ∧ (∀ x ∈ xs, Bd k x) ∧ Bd l n ∧ k + l * 100 ≤ 60000000 ∧ Q (.int (val n xs)) H
theorem val_drop (n : Int) (xs : List Int) (i : Nat) (h : i < xs.length) : val n (xs.drop (xs.length - 1 - i)) = val n (xs.drop (xs.length - i)) * n + xs[xs.length - 1 - i] := by
  rw [List.drop_eq_getElem_cons (by omega), show xs.length - 1 - i + 1 = xs.length - i by omega]
  simp only [val]
  rw [Int.mul_comm]; omega
theorem ok_poly_value {P : Program} {w : World} {K : PySem.W.Frag} {mg : Str → Option Value} {base : Heap} (T : Tx K mg) : FnOk P w K mg base CX0 1 T.a_poly_value T.fd_poly_value ["poly", "n"] (spValue K) := by
  refine T.F_poly_value.ok sc_poly_value (fun vs H Q E h => ?_) (fun cdv A outer s H vs Q E hr h => ?_)
  · obtain ⟨a, xs, n, k, l, rfl, _⟩ := h
    rfl
  obtain ⟨a, xs, n, k, l, rfl, hS, hl, hk, hb, hf, q⟩ := h
  refine ⟨_, ((pss_cons (ps_set (i := 2) sc_poly_value.nd rfl (Or.inl rfl) pe_int)
    (pss_cons (ps_for PassesOwn.never rfl (pi_rev rfl T.z_reversed (pa_cons (pv 0) pa_nil)) (pg_name (i := 3) sc_poly_value.nd rfl (Or.inl rfl)) (pss_one (ps_set (i := 2) sc_poly_value.nd rfl (Or.inl rfl) (pe_op op_add (pe_op op_mulZ (pv 2) (pv 1)) (pv 3)))))
    (pss_one (ps_ret (pv 2)))))), ?_⟩
  k_units
  refine ⟨_, hS, ?_⟩
  obtain ⟨Pv, hPv⟩ : ∃ Pv : Nat → L2.St → Hp → Prop, ∀ i σ H', Pv i σ H' ↔ (∃ r, σ = [some (V.ref a), some (V.int n), some (V.int (val n (xs.drop (xs.length - i)))), r]) ∧ Bd (k + (l + 1) * i) (val n (xs.drop (xs.length - i))) ∧ H' = H := ⟨_, fun _ _ _ => Iff.rfl⟩
  refine lp_rev Pv ((hPv _ _ _).mpr ⟨⟨none, by simp [val]⟩, by simp [val, Bd.zero], rfl⟩) (fun i σ H' _ z => by rw [((hPv i σ H').mp z).2.2]; exact hS) ?_ ?_
  · intro i v σ H' hi hv hp
    obtain ⟨⟨r, rfl⟩, hbd, rfl⟩ := (hPv _ _ _).mp hp
    rw [List.length_map] at hi hv
    rw [List.getElem?_map, List.getElem?_eq_getElem (by omega)] at hv
    obtain rfl : V.int xs[xs.length - 1 - i] = v := Option.some.inj hv
    k_units
    have hx : Bd k xs[xs.length - 1 - i] := hk _ (List.getElem_mem _)
    have e : xs.length - (i + 1) = xs.length - 1 - i := by omega
    have i64 : (l + 1) * i ≤ l * 64 + 64 := by have := Nat.mul_le_mul_left (l + 1) (by omega : i ≤ 64); omega
    refine ⟨hbd.fits hb (by omega), (hPv _ _ _).mpr ⟨⟨_, by rw [e, val_drop n xs i hi]⟩, ?_, rfl⟩⟩
    rw [e, val_drop n xs i hi]
    refine ((hbd.mul hb).add (hx.mono (by omega : k ≤ k + (l + 1) * i + l))).mono ?_
    rw [Nat.mul_succ]; omega
  · intro σ H' hp
    obtain ⟨⟨r, rfl⟩, _, rfl⟩ := (hPv _ _ _).mp hp
    k_units
    rw [List.length_map, Nat.sub_self, List.drop_zero]
    exact q
def mkT (H : Hp) (Q : VK) (x y : Int) : Prop := ∀ p, H p = none → Q (.ref p) (upd H p (.tup [.int x, .int y]))
def spRatio (c : Addr) : Sp := fun vs H Q E => ∃ t b : Int, vs = [.int t, .int b] ∧ Bd 3000 b ∧
  ((b ≠ 0 ∧ ∀ x y : Int, 1 ≤ y → Nat.gcd x.natAbs y.natAbs = 1 → x * b = t * y → x.natAbs ≤ t.natAbs → y.natAbs ≤ b.natAbs → mkT H Q x y) ∨ (b = 0 ∧ E (.ref c) none H))
theorem ok_ratio {P : Program} {w : World} {K : PySem.W.Frag} {mg : Str → Option Value} {base : Heap} (T : Tx K mg) : FnOk P w K mg base (CXE P w) 2 T.a_ratio T.fd_ratio ["top", "bottom"] (spRatio T.c_NoNumber) := by
  refine T.F_ratio.okE sc_ratio (fun vs H Q E h => ?_) (fun cdv A outer s H vs Q E hr h => ?_)
  · obtain ⟨t, b, rfl, _⟩ := h
    rfl
  obtain ⟨t, b, rfl, hb, q⟩ := h
  refine ⟨_, ((pss_cons (ps_if (PT.nox (pt_cmpR op_eq (pv 1) pe_int (nomark _))) (pss_one (ps_raise rfl throwE rfl T.mc_NoNumber T.xc_NoNumber (pa_cons pe_str pa_nil))) pss_nil)
    (pss_cons (PS.nox (ps_set (i := 2) sc_ratio.nd rfl (Or.inl rfl) (pe_call (FnOk.mono (ok_divisor T) (by decide)) hr rfl T.m_divisor T.F_divisor.kp T.b_divisor .nil pass0 (pa_cons (pv 0) (pa_cons (pv 1) pa_nil)))))
    (pss_cons (PS.nox (ps_if (pt_cmpR op_lt (pv 1) pe_int (nomark _)) (pss_one (ps_set (i := 2) sc_ratio.nd rfl (Or.inl rfl) (pe_un un_neg (pv 2)))) pss_nil))
    (pss_one (PS.nox (ps_ret (pe_tup (pa_cons (pe_op op_fdivB (pv 0) (pv 2)) (pa_cons (pe_op op_fdivB (pv 1) (pv 2)) pa_nil)))))))))), ?_⟩
  k_units
  refine ite2 (fun h0 => ?_) (fun h0 => ?_)
  · rcases q with ⟨hn, _⟩ | ⟨_, q⟩
    · exact absurd h0 hn
    · exact ⟨by decide, q⟩
  · obtain ⟨hn, q⟩ := q.resolve_right fun z => h0 z.1
    refine ⟨t, b, rfl, Nat.lt_of_lt_of_le hb (Nat.pow_le_pow_right (by decide) (by decide)), ?_⟩
    have small : ∀ s : Int, s.natAbs = Nat.gcd t.natAbs b.natAbs → s.natAbs < 2 ^ 9000 := fun s e => by
      rw [e]
      exact Nat.lt_of_le_of_lt (Nat.gcd_le_right _ (by omega)) (Nat.lt_of_lt_of_le hb (Nat.pow_le_pow_right (by decide) (by decide)))
    have fin : ∀ s : Int, (s = if b < 0 then -((Nat.gcd t.natAbs b.natAbs : Nat) : Int) else ((Nat.gcd t.natAbs b.natAbs : Nat) : Int)) → (s ≠ 0 ∧ s.natAbs < 2 ^ 9000) ∧ (s ≠ 0 ∧ s.natAbs < 2 ^ 9000) ∧ mkT H Q (t.fdiv s) (b.fdiv s) := fun s e => by
      obtain ⟨g1, g2, g3, g4, g5, g6⟩ := gcd_split hn e
      refine ⟨⟨g1, small s g2⟩, ⟨g1, small s g2⟩, q _ _ g5 g6 ?_ (fdiv_le g1 g3) (fdiv_le g1 g4)⟩
      rw [Int.mul_comm, g4, Int.mul_assoc, ← g4]
      generalize b.fdiv s = y at *
      generalize t.fdiv s = x at *
      rw [g3, Int.mul_assoc, Int.mul_comm x y]
    refine ite2 (fun hneg => ?_) (fun hneg => ?_)
    · obtain ⟨f1, f2, f3⟩ := fin _ (by rw [if_pos hneg])
      exact ⟨_, rfl, f1.1, f1.2, f2.1, f2.2, by decide, f3⟩
    · obtain ⟨f1, f2, f3⟩ := fin _ (by rw [if_neg hneg])
      exact ⟨_, rfl, f1.1, f1.2, _, rfl, f2.1, f2.2, by decide, f3⟩
def clr (m : Int) (xs : List Int) : Bool := decide (hd (shiftL m xs) ≠ 0 ∧ ∀ y ∈ shiftL m xs, 0 ≤ y * hd (shiftL m xs))
theorem clr_iff (m : Int) (xs : List Int) : clr m xs = true ↔ Clear (shiftL m xs) := by unfold clr Clear; exact decide_eq_true_iff
theorem hd_co (ys : List Int) : hd ys = co ys 0 := by cases ys <;> rfl
theorem trim_in {ys : List Int} {y : Int} (h : y ∈ ys) : y ∈ trim ys ∨ y = 0 := by
  obtain ⟨k, hk, rfl⟩ := List.mem_iff_getElem.mp h
  rw [← co_lt hk, ← trim_co]
  by_cases z : k < (trim ys).length
  · rw [co_lt z]; exact .inl (List.getElem_mem z)
  · exact .inr (co_ge (by omega))
theorem in_trim {ys : List Int} {y : Int} (h : y ∈ trim ys) : y ∈ ys := by
  unfold trim at h
  exact List.mem_reverse.mp ((List.dropWhile_sublist _).subset (List.mem_reverse.mp h))
theorem clr_trim {m : Int} {xs : List Int} (h0 : co (trim (shiftL m xs)) 0 ≠ 0) : clr m xs = true ↔ (∀ y ∈ trim (shiftL m xs), 0 ≤ y) ∨ (∀ y ∈ trim (shiftL m xs), y ≤ 0) := by
  rw [trim_co, ← hd_co] at h0
  rw [clr_iff, clear_iff h0]
  constructor
  · rintro (h | h)
    · exact .inl fun y hy => h y (in_trim hy)
    · exact .inr fun y hy => h y (in_trim hy)
  · rintro (h | h)
    · refine .inl fun y hy => (trim_in hy).elim (h y) fun z => by omega
    · refine .inr fun y hy => (trim_in hy).elim (h y) fun z => by omega
theorem clr_no {m : Int} {xs : List Int} (h : co (shiftL m xs) 0 = 0) : clr m xs = false := by
  rw [← hd_co] at h
  refine Bool.eq_false_iff.mpr fun z => ((clr_iff m xs).mp z).1 h
def spClear (K : PySem.W.Frag) : Sp := fun vs H Q _ => ∃ (a : Addr) (xs : List Int) (m : Int) (k l : Nat), vs = [.ref a, .int m] ∧ SqL K H a (xs.map V.int) ∧ xs.length ≤ 64 ∧ (∀ x ∈ xs, Bd k x) ∧ Bd l m ∧ k + l * 5000 ≤ 60000000 ∧ ∀ H', Same H H' → Q (.bl (clr m xs)) H'
theorem ok_clear {P : Program} {w : World} {K : PySem.W.Frag} {mg : Str → Option Value} {base : Heap} (T : Tx K mg) : FnOk P w K mg base CX0 3 T.a_clear T.fd_clear ["poly", "m"] (spClear K) := by
  refine T.F_clear.ok sc_clear (fun vs H Q E h => ?_) (fun cdv A outer s H vs Q E hr h => ?_)
  · obtain ⟨a, xs, m, k, l, rfl, _⟩ := h
    rfl
  obtain ⟨a, xs, m, k, l, rfl, hS, hl, hk, hb, hf, q⟩ := h
  refine ⟨_, ((pss_cons (ps_set (i := 2) sc_clear.nd rfl (Or.inl rfl) (pe_call (FnOk.mono (ok_shifted T) (by decide)) hr rfl T.m_shifted T.F_shifted.kp T.b_shifted .nil pass0 (pa_cons (pv 0) (pa_cons (pv 1) pa_nil))))
    (pss_cons (ps_if (PW.pt (pw_or (pt_cmpR op_eq (pe_callB call_len_seq rfl T.z_len bt_len (pa_cons (pv 2) pa_nil)) pe_int (nomark _)) (pw_or1 (pt_cmpR op_eq (pe_ix ix_list (pv 2) pe_int (fun _ _ => rfl)) pe_int (nomark _))))) (pss_one (ps_ret pe_bl)) pss_nil)
    (pss_one (ps_ret (pe_or (pe_cmpR op_ge (pe_callB (call_minL rfl) rfl T.z_min bt_min (pa_cons (pv 2) pa_nil)) pe_int (nomark _)) (pe_one (pe_cmpR op_le (pe_callB (call_maxL rfl) rfl T.z_max bt_max (pa_cons (pv 2) pa_nil)) pe_int (nomark _))))))))), ?_⟩
  k_units
  refine ⟨a, xs, m, k, l, rfl, hS, hl, hk, hb, hf, fun R H1 s1 nR eR => ?_⟩
  refine ⟨R, rfl, _, .inl (SqL.of eR), ?_⟩
  have q := q _ s1
  obtain ⟨ys, hys⟩ : ∃ ys, trim (shiftL m xs) = ys := ⟨_, rfl⟩
  rw [hys] at eR ⊢
  rw [List.length_map]
  refine ite2 (fun h => ?_) (fun h => ?_)
  · have tz : ys = [] := List.eq_nil_of_length_eq_zero (by omega)
    have z : clr m xs = false := clr_no (by rw [← trim_co, hys, tz]; rfl)
    rw [z] at q
    exact q
  have hlt : 0 < ys.length := by omega
  have hne : ys ≠ [] := List.length_pos_iff.mp hlt
  refine ⟨R, rfl, _, SqL.of eR, _, (show atI (ys.map V.int) 0 = some (V.int ys[0]) from at_int hlt), ?_⟩
  k_units
  refine ite2 (fun h0 => ?_) (fun h0 => ?_)
  · have z : clr m xs = false := clr_no (by rw [← trim_co, hys, co_lt hlt]; exact h0)
    rw [z] at q
    exact q
  have ct := clr_trim (m := m) (xs := xs) (by rw [hys, co_lt hlt]; exact h0)
  rw [hys] at ct
  refine ⟨_, SqL.of eR, hne, fun M hM1 hM2 => ite2 (fun h1 => ?_) (fun h1 => ⟨_, SqL.of eR, hne, fun M2 hN1 hN2 => ?_⟩)⟩
  · rw [ct.mpr (.inl fun y hy => Int.le_trans h1 (hM2 y hy))] at q
    exact q
  · have e : decide (M2 ≤ 0) = clr m xs := by
      rw [Bool.eq_iff_iff, ct, decide_eq_true_iff]
      constructor
      · intro h2
        exact .inr fun y hy => Int.le_trans (hN2 y hy) h2
      · rintro (h2 | h2)
        · exact absurd (h2 M hM1) h1
        · exact h2 M2 hN1
    rw [e]
    exact q
def spReach (K : PySem.W.Frag) (c d : Addr) : Sp := fun vs H Q E => ∃ (a : Addr) (xs : List Int), vs = [.ref a] ∧ SqL K H a (xs.map V.int) ∧ xs.length ≤ 64 ∧ (∀ x ∈ xs, Bd 200 x) ∧
  ((xs = [] ∧ E (.ref c) none H) ∨ (xs ≠ [] ∧ ((∃ m : Nat, m ≤ 60 ∧ clr m xs = true ∧ (∀ j : Nat, j < m → clr j xs = false) ∧ ∀ H', Same H H' → Q (.int m) H') ∨ ((∀ j : Nat, j ≤ 60 → clr j xs = false) ∧ ∀ H', Same H H' → E (.ref d) none H'))))
theorem ok_reach {P : Program} {w : World} {K : PySem.W.Frag} {mg : Str → Option Value} {base : Heap} (T : Tx K mg) : FnOk P w K mg base (CXE P w) 4 T.a_reach T.fd_reach ["poly"] (spReach K T.c_NoNumber T.c_TooGreat) := by
  refine T.F_reach.okE sc_reach (fun vs H Q E h => ?_) (fun cdv A outer s H vs Q E hr h => ?_)
  · obtain ⟨a, xs, rfl, _⟩ := h
    rfl
  obtain ⟨a, xs, rfl, hS, hl, hk, q⟩ := h
  refine ⟨_, ((pss_cons (ps_if (PT.nox (pt_cmpR op_eq (pe_callB call_len_seq rfl T.z_len bt_len (pa_cons (pv 0) pa_nil)) pe_int (nomark _))) (pss_one (ps_raise rfl throwE rfl T.mc_NoNumber T.xc_NoNumber (pa_cons pe_str pa_nil))) pss_nil)
    (pss_cons (PS.nox (ps_for PassesOwn.never rfl (pi_range1 rfl T.z_range (pa_cons (pe_op op_add (pe_glob (v := .int 60) rfl T.g_FARTHEST.2 ⟨_, rfl⟩) pe_int) pa_nil)) (pg_name (i := 1) sc_reach.nd rfl (Or.inl rfl)) (pss_one (ps_if (pt_val (pe_call (FnOk.mono (ok_clear T) (by decide)) hr rfl T.m_clear T.F_clear.kp T.b_clear .nil pass0 (pa_cons (pv 0) (pa_cons (pv 1) pa_nil)))) (pss_one (ps_ret (pv 1))) pss_nil))))
    (pss_one (ps_raise rfl throwE rfl T.mc_TooGreat T.xc_TooGreat (pa_cons (pe_fst (pe_glob (v := .int 60) rfl T.g_FARTHEST.2 ⟨_, rfl⟩)) pa_nil)))))), ?_⟩
  k_units
  refine ⟨_, .inl hS, ?_⟩
  rw [List.length_map]
  refine ite2 (fun h => ?_) (fun h => ?_)
  · rcases q with ⟨_, q⟩ | ⟨hn, _⟩
    · exact ⟨by decide, q⟩
    · exact absurd (List.eq_nil_of_length_eq_zero (by omega)) hn
  have hne : xs ≠ [] := by intro z; rw [z] at h; simp at h
  have q := (q.resolve_left fun z => hne z.1).2
  refine ⟨by decide, by decide, ?_⟩
  have e61 : ((60 : Int) + 1).toNat = 61 := rfl
  rw [e61]
  obtain ⟨Pv, hPv⟩ : ∃ Pv : Nat → L2.St → Hp → Prop, ∀ i σ H', Pv i σ H' ↔ ∃ r : Option V, σ = [some (V.ref a), r] ∧ Same H H' ∧ ∀ j : Nat, j < i → clr j xs = false := ⟨_, fun _ _ _ => Iff.rfl⟩
  refine lp_range Pv ((hPv _ _ _).mpr ⟨_, rfl, Same.refl _, fun j hj => by omega⟩) ?_ ?_
  · intro i σ H' hi hp
    obtain ⟨r, rfl, sP, hj⟩ := (hPv _ _ _).mp hp
    have e1 : (0 : Int) + (i : Int) = (i : Int) := Int.zero_add _
    (iterate 3 (k_units; (try simp only [e1])); k_units)
    refine ⟨a, xs, i, 200, 10, rfl, sP.seq hS, hl, hk, Bd.of_lt (m := 61) (by omega) (by decide), by decide, fun H2 s2 => ⟨_, rfl, ite2 (fun hc => ?_) (fun hc => (hPv _ _ _).mpr ⟨_, rfl, sP.trans s2, fun j hj' => ?_⟩)⟩⟩
    · rcases q with ⟨m, m60, hm, hm2, q⟩ | ⟨hno, _⟩
      · have e : m = i := by
          rcases Nat.lt_trichotomy m i with z | z | z
          · rw [hj m z] at hm; cases hm
          · exact z
          · rw [hm2 i z] at hc; cases hc
        subst e
        exact q _ (sP.trans s2)
      · rw [hno i (by omega)] at hc; cases hc
    · by_cases z : j < i
      · exact hj j z
      · rw [show j = i by omega]; exact Bool.eq_false_iff.mpr hc
  · intro σ H' hp
    obtain ⟨r, rfl, sP, hj⟩ := (hPv _ _ _).mp hp
    k_units
    rcases q with ⟨m, m60, hm, hm2, q⟩ | ⟨_, q⟩
    · rw [hj m (by omega)] at hm; cases hm
    exact ⟨by decide +kernel, by decide +kernel, by decide +kernel, by decide, q _ sP⟩
theorem call_list_ofK {X : Cx} {K : PySem.W.Frag} (hK : X.K = K) : CallR X (.type "list") (fun xs H Q => ∃ p ys, xs = [.ref p] ∧ (SqL K H p ys ∨ SqT K H p ys) ∧ ∀ l, H l = none → Q (.ref l) (upd H l (.lst ys))) := by subst hK; exact call_list_of
theorem ix_tupK {X : Cx} {K : PySem.W.Frag} (hK : X.K = K) : IxR X (rIxT K) := by subst hK; exact ix_tup
structure LL (K : PySem.W.Frag) (H : Hp) (as : List Addr) (ps : List (List Int)) : Prop where
  len : as.length = ps.length
  get : ∀ (i : Nat) (a : Addr) (p : List Int), as[i]? = some a → ps[i]? = some p → SqL K H a (p.map V.int)
theorem LL.same {K : PySem.W.Frag} {H H' : Hp} {as : List Addr} {ps : List (List Int)} (h : LL K H as ps) (s : Same H H') : LL K H' as ps := ⟨h.len, fun i a p h1 h2 => s.seq (h.get i a p h1 h2)⟩
theorem LL.nth {K : PySem.W.Frag} {H : Hp} {as : List Addr} {ps : List (List Int)} (h : LL K H as ps) {i : Nat} {v : V} (hv : (as.map V.ref)[i]? = some v) : ∃ a p, v = .ref a ∧ as[i]? = some a ∧ ps[i]? = some p ∧ SqL K H a (p.map V.int) := by
  rw [List.getElem?_map] at hv
  obtain ⟨a, ha, rfl⟩ := Option.map_eq_some_iff.mp hv
  have hi := (List.getElem?_eq_some_iff.mp ha).1
  have hp : i < ps.length := by rw [← h.len]; exact hi
  exact ⟨a, ps[i], rfl, ha, List.getElem?_eq_getElem hp, h.get i a _ ha (List.getElem?_eq_getElem hp)⟩
theorem LL.lastAt {K : PySem.W.Frag} {H : Hp} {as : List Addr} {ps : List (List Int)} (h : LL K H as ps) (hne : ps ≠ []) : ∃ a p, atI (as.map V.ref) (-1) = some (.ref a) ∧ as.getLast? = some a ∧ ps.getLast? = some p ∧ SqL K H a (p.map V.int) := by
  have hl : ps.length ≠ 0 := fun z => hne (List.eq_nil_of_length_eq_zero z)
  have ha : as.length - 1 < as.length := by have := h.len; omega
  have hp : as.length - 1 < ps.length := by have := h.len; omega
  refine ⟨as[as.length - 1], ps[as.length - 1], ?_, ?_, ?_, h.get (as.length - 1) _ _ (List.getElem?_eq_getElem ha) (List.getElem?_eq_getElem hp)⟩
  · have e := ixN_neg (n := (as.map V.ref).length) (i := 1) (by decide) (by rw [List.length_map]; omega)
    have e1 : (-((1 : Nat) : Int)) = -1 := rfl
    rw [e1] at e
    unfold atI
    rw [e]
    show (as.map V.ref)[(as.map V.ref).length - 1]? = _
    rw [List.getElem?_map, List.length_map, List.getElem?_eq_getElem ha]; rfl
  · rw [List.getLast?_eq_getElem?, List.getElem?_eq_getElem ha]
  · rw [List.getLast?_eq_getElem?, ← h.len, List.getElem?_eq_getElem hp]
def IsRule (ps : List (List Int)) : Prop := ps ≠ [] ∧ (∀ p, ps.getLast? = some p → p ≠ []) ∧ ∀ p ∈ ps, Nml p
def spOrder (K : PySem.W.Frag) (c : Addr) : Sp := fun vs H Q E => ∃ (R : Addr) (as : List Addr) (ps : List (List Int)), vs = [.ref R] ∧ SqL K H R (as.map V.ref) ∧ LL K H as ps ∧ ps.length ≤ 1000 ∧
  ((IsRule ps ∧ Q (.int ((ps.length : Int) - 1)) H) ∨ (¬ IsRule ps ∧ E (.ref c) none H))
theorem ok_order_of {P : Program} {w : World} {K : PySem.W.Frag} {mg : Str → Option Value} {base : Heap} (T : Tx K mg) : FnOk P w K mg base (CXE P w) 1 T.a_order_of T.fd_order_of ["rule"] (spOrder K T.c_NoRule) := by
  refine T.F_order_of.okE sc_order_of (fun vs H Q E h => ?_) (fun cdv A outer s H vs Q E hr h => ?_)
  · obtain ⟨R, as, ps, rfl, _⟩ := h
    rfl
  obtain ⟨R, as, ps, rfl, hR, hL, hl, q⟩ := h
  refine ⟨_, ((pss_cons (ps_if (PT.nox (PW.pt (pw_or (pt_cmpR op_eq (pe_callB call_len_seq rfl T.z_len bt_len (pa_cons (pv 0) pa_nil)) pe_int (nomark _)) (pw_or1 (pt_cmpR op_eq (pe_callB call_len_seq rfl T.z_len bt_len (pa_cons (pe_ix ix_list (pv 0) (pe_un un_neg pe_int) (fun _ _ => rfl)) pa_nil)) pe_int (nomark _)))))) (pss_one (ps_raise rfl throwE rfl T.mc_NoRule T.xc_NoRule (pa_cons pe_str pa_nil))) pss_nil)
    (pss_cons (ps_for PassesOwn.leaving rfl (pi_list (pv 0)) (pg_name (i := 1) sc_order_of.nd rfl (Or.inl rfl)) (pss_one (ps_if (PT.nox (PW.pt (pw_and (pt_cmpR op_gt (pe_callB call_len_seq rfl T.z_len bt_len (pa_cons (pv 1) pa_nil)) pe_int (nomark _)) (pw_and1 (pt_cmpR op_eq (pe_ix ix_list (pv 1) (pe_un un_neg pe_int) (fun _ _ => rfl)) pe_int (nomark _)))))) (pss_one (ps_raise rfl throwE rfl T.mc_NoRule T.xc_NoRule (pa_cons pe_str pa_nil))) pss_nil)))
    (pss_one (PS.nox (ps_ret (pe_op op_sub (pe_callB call_len_seq rfl T.z_len bt_len (pa_cons (pv 0) pa_nil)) pe_int))))))), ?_⟩
  k_units
  refine ⟨_, .inl hR, ?_⟩
  rw [List.length_map]
  have ql : ¬ IsRule ps → E (.ref T.c_NoRule) none H := fun h => (q.resolve_left fun z => h z.1).2
  refine ite2 (fun h => ?_) (fun h => ?_)
  · exact ⟨by decide, ql fun z => z.1 (List.eq_nil_of_length_eq_zero (by rw [← hL.len]; omega))⟩
  have hne : ps ≠ [] := by intro z; have := hL.len; rw [z] at this; simp at this; rw [this] at h; simp at h
  obtain ⟨a, p, e1, e2, e3, hp⟩ := hL.lastAt hne
  refine ⟨_, hR, _, e1, ?_⟩
  k_units
  refine ⟨_, .inl hp, ?_⟩
  rw [List.length_map]
  refine ite2 (fun h2 => ⟨by decide, ql fun z => z.2.1 p e3 (List.eq_nil_of_length_eq_zero (by omega))⟩) (fun h2 => ⟨⟨_, hR⟩, ?_⟩)
  have hp0 : p ≠ [] := by intro z; rw [z] at h2; simp at h2
  obtain ⟨Pv, hPv⟩ : ∃ Pv : Nat → L2.St → Hp → Prop, ∀ i σ H', Pv i σ H' ↔ ∃ r : Option V, σ = [some (V.ref R), r] ∧ H' = H ∧ ∀ x ∈ ps.take i, Nml x := ⟨_, fun _ _ _ => Iff.rfl⟩
  refine lp_list (xs := as.map V.ref) Pv ((hPv _ _ _).mpr ⟨_, rfl, rfl, by simp⟩) (fun i σ H' _ z => by obtain ⟨_, _, rfl, _⟩ := (hPv i σ H').mp z; exact hR) ?_ ?_
  · intro i v σ H' hv hp'
    obtain ⟨r, rfl, rfl, hn⟩ := (hPv _ _ _).mp hp'
    obtain ⟨a', p', rfl, ha, hp2, hA⟩ := hL.nth hv
    have nxt : Nml p' → Pv (i + 1) [some (V.ref R), some (V.ref a')] H' := fun h => (hPv _ _ _).mpr ⟨_, rfl, rfl, fun x hx => by
      rw [List.take_succ, hp2] at hx
      rcases List.mem_append.mp hx with z | z
      · exact hn x z
      · rw [show x = p' by simpa using z]; exact h⟩
    k_units
    refine ⟨_, .inl hA, ?_⟩
    rw [List.length_map]
    refine ite2 (fun h3 => ?_) (fun h3 => nxt (by rw [List.eq_nil_of_length_eq_zero (show p'.length = 0 by omega)]; exact nml_nil))
    have hne' : p' ≠ [] := by intro z; rw [z] at h3; simp at h3
    refine ⟨_, hA, _, at_last hne', ?_⟩
    k_units
    refine ite2 (fun h0 => ⟨by decide, ql fun z => nml_last.mp (z.2.2 p' (List.mem_of_getElem? hp2)) _ (List.getLast?_eq_some_getLast hne') h0⟩) (fun h0 => nxt (nml_last.mpr fun x hx => ?_))
    rw [List.getLast?_eq_some_getLast hne'] at hx
    rw [← Option.some.inj hx]; exact h0
  · intro σ H' hp'
    obtain ⟨r, rfl, rfl, hn⟩ := (hPv _ _ _).mp hp'
    rw [List.length_map, hL.len, List.take_length] at hn
    k_units
    refine ⟨_, .inl hR, ?_⟩
    rw [List.length_map, hL.len]
    exact (q.resolve_right fun z => z.1 ⟨hne, fun p2 e => by rw [e3] at e; cases e; exact hp0, hn⟩).2
def spNeed (K : PySem.W.Frag) (c d : Addr) : Sp := fun vs H Q E => ∃ (R : Addr) (as : List Addr) (ps : List (List Int)), vs = [.ref R] ∧ SqL K H R (as.map V.ref) ∧ LL K H as ps ∧ ps.length ≤ 1000 ∧
  ((¬ IsRule ps ∧ E (.ref c) none H) ∨ (IsRule ps ∧ ∃ xs, ps.getLast? = some xs ∧ xs.length ≤ 64 ∧ (∀ x ∈ xs, Bd 200 x) ∧
    ((∃ m : Nat, m ≤ 60 ∧ clr m xs = true ∧ (∀ j : Nat, j < m → clr j xs = false) ∧ ∀ H', Same H H' → Q (.int ((ps.length : Int) - 1 + m)) H') ∨ ((∀ j : Nat, j ≤ 60 → clr j xs = false) ∧ ∀ H', Same H H' → E (.ref d) none H'))))
theorem ok_need_of {P : Program} {w : World} {K : PySem.W.Frag} {mg : Str → Option Value} {base : Heap} (T : Tx K mg) : FnOk P w K mg base (CXE P w) 5 T.a_need_of T.fd_need_of ["rule"] (spNeed K T.c_NoRule T.c_TooGreat) := by
  refine T.F_need_of.okE sc_need_of (fun vs H Q E h => ?_) (fun cdv A outer s H vs Q E hr h => ?_)
  · obtain ⟨R, as, ps, rfl, _⟩ := h
    rfl
  obtain ⟨R, as, ps, rfl, hR, hL, hl, q⟩ := h
  refine ⟨_, ((pss_cons (ps_set (i := 1) sc_need_of.nd rfl (Or.inl rfl) (pe_call (FnOk.mono (ok_order_of T) (by decide)) hr rfl T.m_order_of T.F_order_of.kp T.b_order_of .nil passE (pa_cons (pv 0) pa_nil)))
    (pss_one (ps_ret (pe_op op_add (pv 1) (pe_call (FnOk.mono (ok_reach T) (by decide)) hr rfl T.m_reach T.F_reach.kp T.b_reach .nil passE (pa_cons (pe_ix ix_list (pv 0) (pe_un un_neg pe_int) (fun _ _ => rfl)) pa_nil))))))), ?_⟩
  k_units
  refine ⟨R, as, ps, rfl, hR, hL, hl, ?_⟩
  rcases q with ⟨hn, q⟩ | ⟨hI, xs, e3, lx, bx, q⟩
  · exact .inr ⟨hn, q⟩
  refine .inl ⟨hI, ?_⟩
  obtain ⟨a, p, e1, e2, e4, hp⟩ := hL.lastAt hI.1
  obtain rfl : p = xs := by rw [e3] at e4; exact (Option.some.inj e4).symm
  have hne := hI.2.1 p e3
  refine ⟨_, hR, _, e1, a, p, rfl, hp, lx, bx, .inr ⟨hne, ?_⟩⟩
  rcases q with ⟨m, m60, m1, m2, q⟩ | ⟨hno, q⟩
  · exact .inl ⟨m, m60, m1, m2, fun H' s' => ⟨_, rfl, _, rfl, q H' s'⟩⟩
  · exact .inr ⟨hno, q⟩
theorem val_bd {k l : Nat} {n : Int} (hn : Bd l n) : ∀ xs : List Int, (∀ x ∈ xs, Bd k x) → Bd (k + (l + 1) * xs.length) (val n xs)
  | [], _ => Bd.zero _
  | x :: xs, h => by
    have i := val_bd hn xs fun y hy => h y (by simp [hy])
    have e : val n (x :: xs) = x + n * val n xs := rfl
    rw [e, List.length_cons, Nat.mul_succ]
    exact (((h x (by simp)).mono (l := l + (k + (l + 1) * xs.length)) (by omega)).add (hn.mul i)).mono (by omega)
theorem co_in {xs : List Int} {P : Int → Prop} (h : ∀ x ∈ xs, P x) (h0 : P 0) (j : Nat) : P (co xs j) := by
  by_cases z : j < xs.length
  · rw [co_lt z]; exact h _ (List.getElem_mem z)
  · rw [co_ge (by omega)]; exact h0
theorem in_co {xs : List Int} {P : Int → Prop} (h : ∀ j, P (co xs j)) : ∀ x ∈ xs, P x := fun x hx => by
  obtain ⟨k, hk, rfl⟩ := List.mem_iff_getElem.mp hx
  rw [← co_lt hk]; exact h k
theorem nml_of_last {xs : List Int} (h : xs = [] ∨ co xs (xs.length - 1) ≠ 0) : Nml xs := by
  refine nml_last.mpr fun x hx => ?_
  rcases h with rfl | h
  · simp at hx
  · have hl : xs.length ≠ 0 := by intro z; rw [List.eq_nil_of_length_eq_zero z] at hx; simp at hx
    rw [co_lt (by omega)] at h
    rw [List.getLast?_eq_getElem?, List.getElem?_eq_getElem (by omega)] at hx
    rw [← Option.some.inj hx]; exact h
theorem nml_one1 (xs : List Int) : Nml (xs ++ [1]) := nml_last.mpr fun x hx => by rw [List.getLast?_concat] at hx; rw [← Option.some.inj hx]; decide
theorem mulP_le {M N : Nat} {ys : List Int} (hy : ∀ y ∈ ys, y.natAbs ≤ N) : ∀ xs : List Int, (∀ x ∈ xs, x.natAbs ≤ M) → ∀ j, (co (mulP xs ys) j).natAbs ≤ xs.length * (M * N)
  | [], _, j => by simp [mulP, co_nil]
  | x :: xs, h, j => by
    have cm : co (ys.map fun z => x * z) j = x * co ys j := by
      by_cases h : j < ys.length
      · rw [co_lt (by rw [List.length_map]; exact h), co_lt h, List.getElem_map]
      · rw [co_ge (by rw [List.length_map]; omega), co_ge (xs := ys) (by omega)]; simp
    have h1 : (x * co ys j).natAbs ≤ M * N := by
      rw [Int.natAbs_mul]
      refine Nat.mul_le_mul (h x (by simp)) ?_
      by_cases z : j < ys.length
      · rw [co_lt z]; exact hy _ (List.getElem_mem z)
      · rw [co_ge (by omega)]; exact Nat.zero_le _
    have h2 : (co (0 :: mulP xs ys) j).natAbs ≤ xs.length * (M * N) := by
      rw [co_cons]
      split
      · exact Nat.zero_le _
      · exact mulP_le hy xs (fun y hy => h y (by simp [hy])) _
    have e : co (mulP (x :: xs) ys) j = x * co ys j + co (0 :: mulP xs ys) j := by rw [mulP, co_addP, cm]
    rw [e, List.length_cons, Nat.add_mul, Nat.one_mul]
    have := Int.natAbs_add_le (x * co ys j) (co (0 :: mulP xs ys) j)
    omega
theorem pm_bd {xs ys : List Int} {k l c : Nat} (hx : ∀ x ∈ xs, Bd k x) (hy : ∀ y ∈ ys, Bd l y) (hl : xs.length ≤ 2 ^ c) (j : Nat) : Bd (k + l + c) (pm (co xs) (co ys) j) := by
  rw [← co_mulP]
  have h1 := mulP_le (M := 2 ^ k - 1) (N := 2 ^ l - 1) (ys := ys) (fun y h => by have : y.natAbs < 2 ^ l := hy y h; omega) xs (fun x h => by have : x.natAbs < 2 ^ k := hx x h; omega) j
  have p1 := Nat.two_pow_pos k
  have p2 := Nat.two_pow_pos l
  have p3 := Nat.two_pow_pos c
  have h2 : (2 ^ k - 1) * (2 ^ l - 1) < 2 ^ k * 2 ^ l := by
    refine Nat.lt_of_le_of_lt (Nat.mul_le_mul_left _ (Nat.sub_le _ 1)) ?_
    exact Nat.mul_lt_mul_of_pos_right (by omega) p2
  show (co (mulP xs ys) j).natAbs < 2 ^ (k + l + c)
  rw [Nat.pow_add, Nat.pow_add]
  refine Nat.lt_of_le_of_lt h1 ?_
  refine Nat.lt_of_le_of_lt (Nat.mul_le_mul_right _ hl) ?_
  rw [Nat.mul_comm (2 ^ k * 2 ^ l)]
  exact Nat.mul_lt_mul_of_pos_left h2 p3
theorem prod_len {xs ys ws : List Int} (nx : Nml xs) (ny : Nml ys) (nw : Nml ws) (h : ∀ j, co ws j = pm (co xs) (co ys) j) : ws.length ≤ xs.length + ys.length - 1 := by
  by_cases x0 : xs = []
  · rw [nml_zero nw fun k => by rw [h k, x0]; exact sumN_zero fun j _ => by rw [co_nil]; simp]; exact Nat.zero_le _
  by_cases w0 : ws = []
  · rw [w0]; exact Nat.zero_le _
  have := (div_len nx x0 nw ny (one := ws) (q := ys) h w0).2
  omega
theorem co_mapc (c : Int) (xs : List Int) (j : Nat) : co (xs.map fun z => c * z) j = c * co xs j := by
  by_cases h : j < xs.length
  · rw [co_lt (by rw [List.length_map]; exact h), co_lt h, List.getElem_map]
  · rw [co_ge (by rw [List.length_map]; omega), co_ge (xs := xs) (by omega)]; simp
theorem val_trim (n : Int) (xs : List Int) : val n (trim xs) = val n xs := val_of_co (fun k => trim_co xs k) n
def pdL (g h : List Int) : List Int := trim (mulP g h)
theorem pd_nml (g h : List Int) : Nml (pdL g h) := trim_nml _
theorem pd_val (n : Int) (g h : List Int) : val n (pdL g h) = val n g * val n h := by unfold pdL; rw [val_trim, val_mulP]
theorem pd_co (g h : List Int) (j : Nat) : co (pdL g h) j = pm (co g) (co h) j := by unfold pdL; rw [trim_co, co_mulP]
theorem pd_ne {g h : List Int} (ng : Nml g) (nh : Nml h) (g0 : g ≠ []) (h0 : h ≠ []) : pdL g h ≠ [] := fun z => by
  have := pd_co g h (h.length - 1 + (g.length - 1))
  rw [z, co_nil, pm_top (fun j hj => co_over j hj) (fun j hj => co_over j hj)] at this
  exact Int.mul_ne_zero (co_last ng g0) (co_last nh h0) this.symm
theorem pd_len {g h : List Int} (ng : Nml g) (nh : Nml h) : (pdL g h).length ≤ g.length + h.length - 1 := prod_len ng nh (pd_nml _ _) (pd_co g h)
theorem zip_sign {c : Int} : ∀ {xs ys : List Int}, (∀ x ∈ xs, 0 ≤ x * c) → (∀ y ∈ ys, 0 ≤ y * c) → ∀ z ∈ List.zipWith (· + ·) xs ys, 0 ≤ z * c
  | [], _, _, _, z, h => by simp at h
  | _ :: _, [], _, _, z, h => by simp at h
  | x :: xs, y :: ys, h1, h2, z, h => by
    rw [List.zipWith_cons_cons] at h
    rcases List.mem_cons.mp h with rfl | h
    · have a := h1 x (by simp)
      have b := h2 y (by simp)
      rw [Int.add_mul]; omega
    · exact zip_sign (fun x hx => h1 x (by simp [hx])) (fun y hy => h2 y (by simp [hy])) z h
theorem moved_sign {d c : Int} (hd : 0 ≤ d) : ∀ ys : List Int, (∀ y ∈ ys, 0 ≤ y * c) → ∀ z ∈ movedL d ys, 0 ≤ z * c
  | [], _, z, h => by simp [movedL] at h
  | y :: ys, h, z, hz => by
    have ih := moved_sign hd ys fun y hy => h y (by simp [hy])
    have e : movedL d (y :: ys) = List.zipWith (· + ·) (y :: movedL d ys) ((movedL d ys).map (fun x => d * x) ++ [0]) := rfl
    rw [e] at hz
    refine zip_sign (fun x hx => ?_) (fun x hx => ?_) z hz
    · rcases List.mem_cons.mp hx with rfl | hx
      · exact h _ (by simp)
      · exact ih x hx
    · rcases List.mem_append.mp hx with hx | hx
      · obtain ⟨u, hu, rfl⟩ := List.mem_map.mp hx
        rw [Int.mul_assoc]
        exact Int.mul_nonneg hd (ih u hu)
      · rw [List.mem_singleton.mp hx]; simp
theorem hd_val (ys : List Int) : hd ys = val 0 ys := by cases ys <;> simp [hd, val]
theorem clear_mono {xs : List Int} {m n : Int} (hmn : m ≤ n) (h : Clear (shiftL m xs)) : Clear (shiftL n xs) := by
  have e : shiftL n xs = movedL (n - m) (shiftL m xs) := val_ext (by rw [moved_len, shift_len, shift_len]) fun k => by rw [val_moved, val_shift, val_shift]; congr 1; omega
  rw [e]
  obtain ⟨h0, h1⟩ := h
  generalize shiftL m xs = ys at h0 h1
  have hd0 : hd (movedL (n - m) ys) = val (n - m) ys := by rw [hd_val, val_moved, Int.zero_add]
  have v0 := clear_val (n := n - m) (by omega) ⟨h0, h1⟩
  have v1 := val_sign (n := n - m) (by omega) (hd ys) ys h1
  refine ⟨by rw [hd0]; exact v0, fun z hz => ?_⟩
  have z1 := moved_sign (show 0 ≤ n - m by omega) ys h1 z hz
  rw [hd0]
  generalize val (n - m) ys = v at v0 v1
  generalize hd ys = c at h0 v1 z1
  rcases Int.lt_or_gt_of_ne h0 with hc | hc
  · have hv : v ≤ 0 := by
      rcases Decidable.em (0 < v) with q | q
      · have := Int.mul_neg_of_pos_of_neg q hc; omega
      · omega
    have hz : z ≤ 0 := by
      rcases Decidable.em (0 < z) with q | q
      · have := Int.mul_neg_of_pos_of_neg q hc; omega
      · omega
    exact Int.mul_nonneg_of_nonpos_of_nonpos hz hv
  · have hv : 0 ≤ v := by
      rcases Decidable.em (v < 0) with q | q
      · have := Int.mul_neg_of_neg_of_pos q hc; omega
      · omega
    have hz : 0 ≤ z := by
      rcases Decidable.em (z < 0) with q | q
      · have := Int.mul_neg_of_neg_of_pos q hc; omega
      · omega
    exact Int.mul_nonneg hz hv
theorem clr_mono {xs : List Int} {m n : Int} (hmn : m ≤ n) (h : clr m xs = true) : clr n xs = true := (clr_iff _ _).mpr (clear_mono hmn ((clr_iff _ _).mp h))
def mulR (rs : List Int) (s : List Int) : List Int := rs.foldl (fun p r => pdL p [-r, 1]) s
def prodR (n : Int) : List Int → Int
  | [] => 1
  | r :: rs => (n - r) * prodR n rs
theorem mulR_val (n : Int) : ∀ (rs s : List Int), val n (mulR rs s) = val n s * prodR n rs
  | [], s => by simp [mulR, prodR]
  | r :: rs, s => by
    have := mulR_val n rs (pdL s [-r, 1])
    unfold mulR at this ⊢
    rw [List.foldl_cons, this, pd_val]
    simp only [val, prodR]; grind
theorem mulR_nml : ∀ (rs s : List Int), Nml s → Nml (mulR rs s)
  | [], _, h => h
  | r :: rs, s, _ => mulR_nml rs (pdL s [-r, 1]) (pd_nml _ _)
theorem mulR_ne : ∀ (rs s : List Int), Nml s → s ≠ [] → mulR rs s ≠ []
  | [], _, _, h => h
  | r :: rs, s, n, h => mulR_ne rs (pdL s [-r, 1]) (pd_nml _ _) (pd_ne n (nml_one1 [-r]) h (by simp))
theorem mulR_len : ∀ (rs s : List Int), Nml s → (mulR rs s).length ≤ s.length + rs.length
  | [], _, _ => by simp [mulR]
  | r :: rs, s, n => by
    have h1 := mulR_len rs (pdL s [-r, 1]) (pd_nml _ _)
    have h2 : (pdL s [-r, 1]).length ≤ s.length + 2 - 1 := pd_len n (nml_one1 [-r])
    have e : mulR (r :: rs) s = mulR rs (pdL s [-r, 1]) := rfl
    rw [e]
    rw [List.length_cons]
    omega
theorem mulR_bd {k : Nat} : ∀ (rs s : List Int), Nml s → (∀ r ∈ rs, r.natAbs < 64) → s.length + rs.length ≤ 8 → (∀ x ∈ s, Bd k x) → ∀ x ∈ mulR rs s, Bd (k + 10 * rs.length) x
  | [], _, _, _, _, h => by simpa [mulR] using h
  | r :: rs, s, n, hr, hl, h => by
    have e : mulR (r :: rs) s = mulR rs (pdL s [-r, 1]) := rfl
    rw [e]
    have r6 := hr r (by simp)
    have h1 : ∀ x ∈ pdL s [-r, 1], Bd (k + 7 + 3) x := in_co fun j => by
      rw [pd_co]
      refine pm_bd h (fun y hy => ?_) (by simp at hl; omega) j
      simp at hy
      rcases hy with rfl | rfl
      · exact Bd.of_lt (m := 64) (by omega) (by decide)
      · exact Bd.one (by decide)
    have h2 : (pdL s [-r, 1]).length ≤ s.length + 2 - 1 := pd_len n (nml_one1 [-r])
    rw [List.length_cons] at hl
    intro x hx
    have := mulR_bd rs (pdL s [-r, 1]) (pd_nml _ _) (fun y hy => hr y (by simp [hy])) (by omega) h1 x hx
    rw [List.length_cons]
    exact this.mono (by omega)
theorem prodR_zero {n : Int} : ∀ {rs : List Int}, prodR n rs = 0 ↔ n ∈ rs
  | [] => by simp [prodR]
  | r :: rs => by
    simp only [prodR, Int.mul_eq_zero, List.mem_cons, prodR_zero (rs := rs)]
    constructor
    · rintro (h | h)
      · exact .inl (by omega)
      · exact .inr h
    · rintro (h | h)
      · exact .inl (by omega)
      · exact .inr h
def Os (xs : List Int) : Prop := co xs 0 ≠ 0 ∧ ∀ j, 0 ≤ co xs j * co xs 0
theorem os_clear {xs : List Int} : Os xs ↔ Clear xs := by
  unfold Os Clear
  rw [hd_co]
  exact ⟨fun h => ⟨h.1, in_co (P := fun y => 0 ≤ y * co xs 0) h.2⟩, fun h => ⟨h.1, fun j => co_in (P := fun y => 0 ≤ y * co xs 0) h.2 (by simp) j⟩⟩
theorem os_co {xs ys : List Int} (h : ∀ j, co xs j = co ys j) : Os xs ↔ Os ys := by unfold Os; simp only [h]
theorem pd_lin (s : List Int) (d : Int) (j : Nat) : co (pdL s [d, 1]) j = d * co s j + if j = 0 then 0 else co s (j - 1) := by
  have e : ∀ n, val n (pdL s [d, 1]) = val n (addP (s.map fun z => d * z) (0 :: s)) := fun n => by
    rw [pd_val, val_addP, val_map]; simp only [val]; grind
  rw [co_of_val e j, co_addP, co_mapc, co_cons]
theorem os_lin {s : List Int} {d : Int} (h : Os s) (hd : 0 < d) : Os (pdL s [d, 1]) := by
  obtain ⟨h0, h1⟩ := h
  have e0 : co (pdL s [d, 1]) 0 = d * co s 0 := by rw [pd_lin, if_pos rfl]; omega
  unfold Os
  rw [e0]
  refine ⟨Int.mul_ne_zero (by omega) h0, fun j => ?_⟩
  rw [pd_lin]
  have a := h1 j
  have b : 0 ≤ (if j = 0 then 0 else co s (j - 1)) * co s 0 := by
    split
    · simp
    · exact h1 _
  generalize (if j = 0 then 0 else co s (j - 1)) = z at b
  have e : (d * co s j + z) * (d * co s 0) = d * (d * (co s j * co s 0)) + d * (z * co s 0) := by grind
  rw [e]
  exact Int.add_nonneg (Int.mul_nonneg (by omega) (Int.mul_nonneg (by omega) a)) (Int.mul_nonneg (by omega) b)
theorem os_mulR {m : Int} : ∀ (rs s : List Int), Os s → (∀ r ∈ rs, r < m) → Os (mulR (rs.map fun r => r - m) s)
  | [], _, h, _ => h
  | r :: rs, s, h, hr => by
    have e : mulR ((r :: rs).map fun r => r - m) s = mulR (rs.map fun r => r - m) (pdL s [-(r - m), 1]) := rfl
    rw [e]
    exact os_mulR rs _ (os_lin h (by have := hr r (by simp); omega)) fun x hx => hr x (by simp [hx])
theorem prodR_sh (n m : Int) : ∀ rs : List Int, prodR (n + m) rs = prodR n (rs.map fun r => r - m)
  | [] => rfl
  | r :: rs => by simp only [List.map_cons, prodR, prodR_sh n m rs]; congr 1; omega
theorem clr_yes {t rs : List Int} {m : Int} (ht : clr m t = true) (hr : ∀ r ∈ rs, r < m) : clr m (mulR rs t) = true := by
  rw [clr_iff, ← os_clear] at ht ⊢
  refine (os_co fun j => ?_).mpr (os_mulR rs _ ht hr)
  refine co_of_val (fun n => ?_) j
  rw [val_shift, mulR_val, mulR_val, val_shift, prodR_sh]
theorem clr_nope {t rs : List Int} {m r : Int} (hr : r ∈ rs) (hm : m ≤ r) : clr m (mulR rs t) = false := by
  refine Bool.eq_false_iff.mpr fun z => ?_
  have z1 := (clr_iff _ _).mp (clr_mono hm z)
  refine z1.1 ?_
  rw [hd_val, val_shift, mulR_val, Int.zero_add, prodR_zero.mpr hr, Int.mul_zero]
theorem val_clr {t : List Int} {m n : Int} (h : clr m t = true) (hn : m ≤ n) : val n t ≠ 0 := by
  have z1 := (clr_iff _ _).mp (clr_mono hn h)
  have := z1.1
  rwa [hd_val, val_shift, Int.zero_add] at this
structure TL (K : PySem.W.Frag) (H : Hp) (as : List Addr) (fs : List (Int × Int)) : Prop where
  len : as.length = fs.length
  get : ∀ (i : Nat) (a : Addr) (f : Int × Int), as[i]? = some a → fs[i]? = some f → SqT K H a [.int f.1, .int f.2]
theorem TL.same {K : PySem.W.Frag} {H H' : Hp} {as : List Addr} {fs : List (Int × Int)} (h : TL K H as fs) (s : Same H H') : TL K H' as fs := ⟨h.len, fun i a f h1 h2 => s.seqT (h.get i a f h1 h2)⟩
theorem TL.nth {K : PySem.W.Frag} {H : Hp} {as : List Addr} {fs : List (Int × Int)} (h : TL K H as fs) {i : Nat} {v : V} (hv : (as.map V.ref)[i]? = some v) : ∃ a f, v = .ref a ∧ as[i]? = some a ∧ fs[i]? = some f ∧ SqT K H a [.int f.1, .int f.2] := by
  rw [List.getElem?_map] at hv
  obtain ⟨a, ha, rfl⟩ := Option.map_eq_some_iff.mp hv
  have hi := (List.getElem?_eq_some_iff.mp ha).1
  have hp : i < fs.length := by rw [← h.len]; exact hi
  exact ⟨a, fs[i], rfl, ha, List.getElem?_eq_getElem hp, h.get i a _ ha (List.getElem?_eq_getElem hp)⟩
def Frc (f : Int × Int) : Prop := 1 ≤ f.2 ∧ Nat.gcd f.1.natAbs f.2.natAbs = 1
theorem wtd {v x y : Int} (hy : 1 ≤ y) (hg : Nat.gcd x.natAbs y.natAbs = 1) : ∃ g : Int, ((Nat.gcd v.natAbs y.natAbs : Nat) : Int) = g ∧ g ≠ 0 ∧ ∃ v' y' : Int, v.fdiv g = v' ∧ y.fdiv g = y' ∧ v = g * v' ∧ y = g * y' ∧ 1 ≤ y' ∧ Nat.gcd (v' * x).natAbs y'.natAbs = 1 := by
  have gp : 0 < Nat.gcd v.natAbs y.natAbs := Nat.gcd_pos_of_pos_right _ (by omega)
  refine ⟨_, rfl, by omega, ?_⟩
  obtain ⟨v', hv⟩ : ((Nat.gcd v.natAbs y.natAbs : Nat) : Int) ∣ v := Int.dvd_natAbs.mp (Int.natCast_dvd_natCast.mpr (Nat.gcd_dvd_left _ _))
  obtain ⟨y', hy'⟩ : ((Nat.gcd v.natAbs y.natAbs : Nat) : Int) ∣ y := Int.dvd_natAbs.mp (Int.natCast_dvd_natCast.mpr (Nat.gcd_dvd_right _ _))
  have ed : ∀ (g a b : Int), g ≠ 0 → a = g * b → a.fdiv g = b := fun g a b h e => by rw [e]; exact Int.mul_fdiv_cancel_left b h
  have e1 := ed _ _ _ (show ((Nat.gcd v.natAbs y.natAbs : Nat) : Int) ≠ 0 by omega) hv
  have e2 := ed _ _ _ (show ((Nat.gcd v.natAbs y.natAbs : Nat) : Int) ≠ 0 by omega) hy'
  have y1 : 1 ≤ y' := by
    rcases Decidable.em (1 ≤ y') with q | q
    · exact q
    · have : ((Nat.gcd v.natAbs y.natAbs : Nat) : Int) * y' ≤ 0 := Int.mul_nonpos_of_nonneg_of_nonpos (by omega) (by omega)
      omega
  have nv : v.natAbs = Nat.gcd v.natAbs y.natAbs * v'.natAbs := by conv => lhs; rw [hv, Int.natAbs_mul, Int.natAbs_natCast]
  have ny : y.natAbs = Nat.gcd v.natAbs y.natAbs * y'.natAbs := by conv => lhs; rw [hy', Int.natAbs_mul, Int.natAbs_natCast]
  have c1 : Nat.gcd v'.natAbs y'.natAbs = 1 := by
    have : Nat.gcd v.natAbs y.natAbs * Nat.gcd v'.natAbs y'.natAbs = Nat.gcd v.natAbs y.natAbs * 1 := by
      rw [← Nat.gcd_mul_left, ← nv, ← ny, Nat.mul_one]
    exact Nat.eq_of_mul_eq_mul_left gp this
  have c2 : Nat.gcd x.natAbs y'.natAbs = 1 := by
    have h : Nat.gcd x.natAbs y'.natAbs ∣ Nat.gcd x.natAbs y.natAbs := Nat.dvd_gcd (Nat.gcd_dvd_left _ _) (Nat.dvd_trans (Nat.gcd_dvd_right _ _) ⟨_, by rw [ny, Nat.mul_comm]⟩)
    rw [hg] at h
    exact Nat.dvd_one.mp h
  refine ⟨v', y', e1, e2, hv, hy', y1, ?_⟩
  rw [Int.natAbs_mul]
  exact Nat.Coprime.mul_left c1 c2
def Sm (M : Int) : List (Int × Int) → Int
  | [] => 0
  | f :: fs => f.1 * M.fdiv f.2 + Sm M fs
theorem fdiv_mul_of {M b k : Int} (hb : 1 ≤ b) (h : b ∣ M) : (M * k).fdiv b = k * M.fdiv b := by
  obtain ⟨c, rfl⟩ := h
  rw [Int.mul_fdiv_cancel_left c (by omega), Int.mul_assoc, Int.mul_fdiv_cancel_left (c * k) (by omega), Int.mul_comm]
theorem Sm_scale {M k : Int} : ∀ {fs : List (Int × Int)}, (∀ f ∈ fs, 1 ≤ f.2 ∧ f.2 ∣ M) → Sm (M * k) fs = k * Sm M fs
  | [], _ => by simp [Sm]
  | f :: fs, h => by
    have ih := Sm_scale (k := k) (fs := fs) fun g hg => h g (by simp [hg])
    simp only [Sm]
    rw [ih, fdiv_mul_of (h f (by simp)).1 (h f (by simp)).2]; grind
theorem Sm_two {M M' : Int} {fs : List (Int × Int)} (h : ∀ f ∈ fs, 1 ≤ f.2 ∧ f.2 ∣ M) (h' : ∀ f ∈ fs, 1 ≤ f.2 ∧ f.2 ∣ M') : Sm M fs * M' = Sm M' fs * M := by
  have a := Sm_scale (k := M') h
  have b := Sm_scale (k := M) h'
  rw [Int.mul_comm M' M] at b
  rw [a] at b
  rw [Int.mul_comm, b, Int.mul_comm]
theorem Sm_live (M : Int) : ∀ fs : List (Int × Int), Sm M (fs.filter fun f => f.1 != 0) = Sm M fs
  | [] => rfl
  | f :: fs => by
    have ih := Sm_live M fs
    by_cases z : f.1 = 0
    · rw [List.filter_cons_of_neg (by simp [z])]
      simp only [Sm]; rw [ih, z]; simp
    · rw [List.filter_cons_of_pos (by simp [z])]
      simp only [Sm]; rw [ih]
theorem Sm_snoc (M : Int) : ∀ (fs : List (Int × Int)) (f : Int × Int), Sm M (fs ++ [f]) = Sm M fs + f.1 * M.fdiv f.2
  | [], f => by simp [Sm]
  | g :: fs, f => by
    have ih := Sm_snoc M fs f
    rw [List.cons_append]
    simp only [Sm]; rw [ih]; omega
theorem Sm_map (M : Int) : ∀ fs : List (Int × Int), (fs.map fun f => f.1 * M.fdiv f.2).sum = Sm M fs
  | [] => rfl
  | f :: fs => by rw [List.map_cons, List.sum_cons, Sm_map M fs]; rfl
theorem tot_of {x y M0 : Int} {fs : List (Int × Int)} (hM : 1 ≤ M0) (h0 : ∀ f ∈ fs, 1 ≤ f.2 ∧ f.2 ∣ M0) (e : x * M0 = y * Sm M0 fs) : ∀ M, (∀ f ∈ fs, f.2 ∣ M) → x * M = y * Sm M fs := fun M h => by
  have t := Sm_two h0 (fun f hf => ⟨(h0 f hf).1, h f hf⟩)
  have e2 : M0 * (x * M) = M0 * (y * Sm M fs) := by
    have : x * M0 * M = y * (Sm M0 fs * M) := by rw [e, Int.mul_assoc]
    rw [t] at this
    grind
  exact Int.eq_of_mul_eq_mul_left (by omega) e2
theorem lcm_step {b f : Int} (hb : 1 ≤ b) (hf : 1 ≤ f) : ∃ g : Int, ((Nat.gcd b.natAbs f.natAbs : Nat) : Int) = g ∧ g ≠ 0 ∧ g.natAbs ≤ f.natAbs ∧ 1 ≤ b * f.fdiv g ∧ b ∣ b * f.fdiv g ∧ f ∣ b * f.fdiv g ∧ (f.fdiv g).natAbs ≤ f.natAbs := by
  have gp : 0 < Nat.gcd b.natAbs f.natAbs := Nat.gcd_pos_of_pos_right _ (by omega)
  obtain ⟨b', hb'⟩ : ((Nat.gcd b.natAbs f.natAbs : Nat) : Int) ∣ b := Int.dvd_natAbs.mp (Int.natCast_dvd_natCast.mpr (Nat.gcd_dvd_left _ _))
  obtain ⟨f', hf'⟩ : ((Nat.gcd b.natAbs f.natAbs : Nat) : Int) ∣ f := Int.dvd_natAbs.mp (Int.natCast_dvd_natCast.mpr (Nat.gcd_dvd_right _ _))
  have gf : Nat.gcd b.natAbs f.natAbs ≤ f.natAbs := Nat.gcd_le_right _ (by omega)
  refine ⟨_, rfl, by omega, by rw [Int.natAbs_natCast]; exact gf, ?_⟩
  have ed : ∀ (g a b : Int), g ≠ 0 → a = g * b → a.fdiv g = b := fun g a b h e => by rw [e]; exact Int.mul_fdiv_cancel_left b h
  rw [ed _ _ _ (show ((Nat.gcd b.natAbs f.natAbs : Nat) : Int) ≠ 0 by omega) hf']
  have f1 : 1 ≤ f' := by
    rcases Decidable.em (1 ≤ f') with q | q
    · exact q
    · have : ((Nat.gcd b.natAbs f.natAbs : Nat) : Int) * f' ≤ 0 := Int.mul_nonpos_of_nonneg_of_nonpos (by omega) (by omega)
      omega
  refine ⟨?_, Int.dvd_mul_right _ _, ⟨b', ?_⟩, ?_⟩
  · have := Int.mul_le_mul hb f1 (by omega) (by omega); omega
  · generalize ((Nat.gcd b.natAbs f.natAbs : Nat) : Int) = g at hb' hf'
    rw [hb']; conv => rhs; rw [hf']
    grind
  · have : f.natAbs = Nat.gcd b.natAbs f.natAbs * f'.natAbs := by conv => lhs; rw [hf', Int.natAbs_mul, Int.natAbs_natCast]
    rw [this]; exact Nat.le_mul_of_pos_left _ gp
theorem SqT.upd {K : PySem.W.Frag} {H : Hp} {a D : Addr} {xs ys zs : List V} (h : SqT K H a xs) (hD : H D = some (.lst ys)) : SqT K (L2.upd H D (.lst zs)) a xs := by
  rcases h with (h | ⟨o, h⟩) | h
  · exact .inl (.inl (by rw [upd_ne (fun z => by rw [z, hD] at h; cases h)]; exact h))
  · exact .inl (.inr ⟨o, by rw [upd_ne (fun z => by rw [z, hD] at h; cases h)]; exact h⟩)
  · exact .inr h
theorem TL.upd {K : PySem.W.Frag} {H : Hp} {as : List Addr} {fs : List (Int × Int)} {D : Addr} {ys zs : List V} (h : TL K H as fs) (hD : H D = some (.lst ys)) : TL K (L2.upd H D (.lst zs)) as fs := ⟨h.len, fun i a f h1 h2 => SqT.upd (h.get i a f h1 h2) hD⟩
theorem TL.nil (K : PySem.W.Frag) (H : Hp) : TL K H [] [] := ⟨rfl, fun i a f h1 _ => by simp at h1⟩
theorem TL.snoc {K : PySem.W.Frag} {H : Hp} {as : List Addr} {fs : List (Int × Int)} {a : Addr} {f : Int × Int} (h : TL K H as fs) (e : SqT K H a [.int f.1, .int f.2]) : TL K H (as ++ [a]) (fs ++ [f]) := by
  refine ⟨by simp [h.len], fun i b r h1 h2 => ?_⟩
  by_cases z : i < as.length
  · rw [List.getElem?_append_left z] at h1
    rw [List.getElem?_append_left (by rw [← h.len]; exact z)] at h2
    exact h.get i b r h1 h2
  · rw [List.getElem?_append_right (by omega)] at h1
    rw [List.getElem?_append_right (by rw [← h.len]; omega), ← h.len] at h2
    have z2 : i - as.length = 0 := by
      rcases Nat.eq_zero_or_pos (i - as.length) with y | y
      · exact y
      · rw [List.getElem?_eq_none (by simp; omega)] at h1; cases h1
    rw [z2] at h1 h2
    simp at h1 h2
    rw [← h1, ← h2]; exact e
def Wm (M : Int) : List (Int × (Int × Int)) → Int
  | [] => 0
  | g :: gs => g.1 * g.2.1 * M.fdiv g.2.2 + Wm M gs
theorem wm_one {a b v x y M : Int} (hb : 1 ≤ b) (hy : 1 ≤ y) (e : a * y = v * x * b) (d : b ∣ y) (m : y ∣ M) : a * M.fdiv b = v * x * M.fdiv y := by
  obtain ⟨c, rfl⟩ := m
  obtain ⟨d', rfl⟩ := d
  have e1 : b * d' * c = b * (d' * c) := Int.mul_assoc _ _ _
  rw [Int.mul_fdiv_cancel_left c (by omega), e1, Int.mul_fdiv_cancel_left (d' * c) (by omega)]
  have e2 : b * (a * d') = b * (v * x) := by grind
  have e3 := Int.eq_of_mul_eq_mul_left (show b ≠ 0 by omega) e2
  rw [← Int.mul_assoc, e3]
theorem cut_some (bs : List Addr) (n k : Nat) (h : n ≤ bs.length) : cutV (bs.map V.ref) (some (n : Int)) (some ((n : Int) + (k : Int))) = ((bs.drop n).take k).map V.ref := by
  unfold cutV
  rw [show (n : Int) + (k : Int) = ((n + k : Nat) : Int) by omega, HT.sIx_nat, HT.sIx_nat, List.length_map, Nat.min_eq_left h, ← List.map_drop, ← List.map_take]
  congr 1
  by_cases z : n + k ≤ bs.length
  · rw [Nat.min_eq_left z, Nat.add_sub_cancel_left]
  · rw [Nat.min_eq_right (by omega), List.take_of_length_le (by rw [List.length_drop]; omega), List.take_of_length_le (by rw [List.length_drop]; omega)]
theorem TL.part {K : PySem.W.Frag} {H : Hp} {as : List Addr} {fs : List (Int × Int)} (h : TL K H as fs) (n k : Nat) : TL K H ((as.drop n).take k) ((fs.drop n).take k) := by
  refine ⟨by simp [h.len], fun i a f h1 h2 => ?_⟩
  have hi : i < k := by
    have := (List.getElem?_eq_some_iff.mp h1).1
    rw [List.length_take] at this; omega
  rw [List.getElem?_take_of_lt hi, List.getElem?_drop] at h1 h2
  exact h.get (n + i) a f h1 h2
theorem Wm_snoc (M : Int) : ∀ (gs : List (Int × (Int × Int))) (g : Int × (Int × Int)), Wm M (gs ++ [g]) = Wm M gs + g.1 * g.2.1 * M.fdiv g.2.2
  | [], g => by simp [Wm]
  | h :: gs, g => by
    have ih := Wm_snoc M gs g
    rw [List.cons_append]
    simp only [Wm]; rw [ih]; omega
def lcmL : List (Int × Int) → Int
  | [] => 1
  | f :: fs => f.2 * lcmL fs
theorem lcm_dvd : ∀ (fs : List (Int × Int)), ∀ f ∈ fs, f.2 ∣ lcmL fs
  | g :: fs, f, h => by
    rcases List.mem_cons.mp h with rfl | h
    · exact Int.dvd_mul_right _ _
    · exact Int.dvd_trans (lcm_dvd fs f h) (Int.dvd_mul_left _ _)
theorem lcm_pos : ∀ (fs : List (Int × Int)), (∀ f ∈ fs, 1 ≤ f.2) → 1 ≤ lcmL fs
  | [], _ => by decide
  | f :: fs, h => by
    have a := h f (by simp)
    have b := lcm_pos fs fun g hg => h g (by simp [hg])
    have := Int.mul_le_mul a b (by omega) (by omega)
    simp only [lcmL]; omega
def Kp (ps : List (List Int)) (fs : List (Int × Int)) (n : Nat) : Prop := Wm (lcmL ((fs.drop n).take ps.length)) ((ps.map (val (n : Int))).zip ((fs.drop n).take ps.length)) = 0
theorem Wm_scale {M k : Int} : ∀ {gs : List (Int × (Int × Int))}, (∀ g ∈ gs, 1 ≤ g.2.2 ∧ g.2.2 ∣ M) → Wm (M * k) gs = k * Wm M gs
  | [], _ => by simp [Wm]
  | g :: gs, h => by
    have ih := Wm_scale (k := k) (gs := gs) fun f hf => h f (by simp [hf])
    simp only [Wm]
    rw [ih, fdiv_mul_of (h g (by simp)).1 (h g (by simp)).2]; grind
theorem lcm_snoc : ∀ (fs : List (Int × Int)) (f : Int × Int), lcmL (fs ++ [f]) = lcmL fs * f.2
  | [], f => by simp [lcmL]
  | g :: fs, f => by rw [List.cons_append]; simp only [lcmL]; rw [lcm_snoc fs f, Int.mul_assoc]
theorem cop_dvd {a b c : Int} (h : a ∣ b * c) (g : Int.gcd a b = 1) : a ∣ c := by
  have h1 := Int.natAbs_dvd_natAbs.mpr h
  rw [Int.natAbs_mul] at h1
  exact Int.natAbs_dvd_natAbs.mp (Nat.Coprime.dvd_of_dvd_mul_left (show Nat.Coprime a.natAbs b.natAbs from g) h1)
def lowF (t b : Int) : Int × Int :=
  let s := if b < 0 then -((Nat.gcd t.natAbs b.natAbs : Nat) : Int) else ((Nat.gcd t.natAbs b.natAbs : Nat) : Int)
  (t.fdiv s, b.fdiv s)
theorem low_is {t b : Int} (hb : b ≠ 0) : Frc (lowF t b) ∧ (lowF t b).1 * b = t * (lowF t b).2 := by
  obtain ⟨h1, _, h3, h4, h5, h6⟩ := gcd_split (t := t) hb rfl
  refine ⟨⟨h5, h6⟩, ?_⟩
  show t.fdiv _ * b = t * b.fdiv _
  generalize (if b < 0 then -((Nat.gcd t.natAbs b.natAbs : Nat) : Int) else ((Nat.gcd t.natAbs b.natAbs : Nat) : Int)) = s at h3 h4
  generalize t.fdiv s = x at h3
  generalize b.fdiv s = y at h4
  rw [h3, h4]; grind
theorem frc_uniq {f g : Int × Int} (hf : Frc f) (hg : Frc g) (h : f.1 * g.2 = g.1 * f.2) : f = g := by
  obtain ⟨f1, f2⟩ := hf
  obtain ⟨g1, g2⟩ := hg
  have d1 : f.2 ∣ g.2 := cop_dvd (b := f.1) ⟨g.1, by rw [h, Int.mul_comm]⟩ (by rw [Int.gcd_comm]; exact f2)
  have d2 : g.2 ∣ f.2 := cop_dvd (b := g.1) ⟨f.1, by rw [← h, Int.mul_comm]⟩ (by rw [Int.gcd_comm]; exact g2)
  have e : f.2 = g.2 := Int.dvd_antisymm (by omega) (by omega) d1 d2
  rw [e] at h
  have e2 := Int.eq_of_mul_eq_mul_right (show g.2 ≠ 0 by omega) h
  exact Prod.ext e2 e
theorem low_uniq {f : Int × Int} {t b : Int} (hf : Frc f) (hb : b ≠ 0) (h : f.1 * b = t * f.2) : f = lowF t b := by
  obtain ⟨l1, l2⟩ := low_is (t := t) hb
  refine frc_uniq hf l1 ?_
  have : b * (f.1 * (lowF t b).2) = b * ((lowF t b).1 * f.2) := by
    generalize lowF t b = g at l2
    have a1 : b * (f.1 * g.2) = f.1 * b * g.2 := by grind
    have a2 : b * (g.1 * f.2) = g.1 * b * f.2 := by grind
    rw [a1, a2, h, l2]; grind
  exact Int.eq_of_mul_eq_mul_left hb this
def ws (ps : List (List Int)) (vs : List (Int × Int)) (n : Nat) : List (Int × (Int × Int)) := (ps.map (val (n : Int))).zip (vs.drop n)
def nextF (ps : List (List Int)) (vs : List (Int × Int)) : Int × Int :=
  let n := vs.length - (ps.length - 1)
  lowF (Wm (lcmL (vs.drop n)) (ws ps vs n)) (-(lcmL (vs.drop n) * val (n : Int) (ps.getLastD [])))
theorem last_split {ps : List (List Int)} (h : ps ≠ []) : ps = ps.dropLast ++ [ps.getLastD []] := by
  rw [List.getLastD_eq_getLast?, List.getLast?_eq_some_getLast h]
  exact (List.dropLast_concat_getLast h).symm
theorem zip_le {α β : Type} : ∀ (xs : List α) (ys : List β) (z : List α), ys.length ≤ xs.length → (xs ++ z).zip ys = xs.zip ys
  | _, [], _, _ => by simp
  | [], _ :: _, _, h => by simp at h
  | x :: xs, y :: ys, z, h => by
    simp only [List.cons_append, List.zip_cons_cons]
    rw [zip_le xs ys z (by simpa using h)]
theorem kp_snoc {ps : List (List Int)} {vs : List (Int × Int)} {z : Int × Int} {n : Nat} (h0 : ps ≠ []) (hn : n + ps.length = vs.length + 1) (hv : ∀ f ∈ vs, 1 ≤ f.2) (hz : 1 ≤ z.2) :
    Kp ps (vs ++ [z]) n ↔ z.1 * (lcmL (vs.drop n) * val (n : Int) (ps.getLastD [])) = -(Wm (lcmL (vs.drop n)) (ws ps vs n)) * z.2 := by
  have lp := List.length_pos_iff.mpr h0
  have e1 : (vs ++ [z]).drop n = vs.drop n ++ [z] := by rw [List.drop_append_of_le_length (by omega)]
  have e2 : (vs.drop n ++ [z]).take ps.length = vs.drop n ++ [z] := List.take_of_length_le (by simp; omega)
  have ld : (vs.drop n).length = ps.length - 1 := by rw [List.length_drop]; omega
  have e3 : (ps.map (val (n : Int))).zip (vs.drop n ++ [z]) = ws ps vs n ++ [(val (n : Int) (ps.getLastD []), z)] := by
    unfold ws
    conv => lhs; rw [last_split h0]
    conv => rhs; rw [last_split h0]
    simp only [List.map_append, List.map_cons, List.map_nil]
    rw [List.zip_append (by rw [List.length_map, List.length_dropLast, ld]), zip_le _ _ _ (by rw [List.length_map, List.length_dropLast, ld]; exact Nat.le_refl _)]
    simp
  have hm : ∀ g ∈ ws ps vs n, 1 ≤ g.2.2 ∧ g.2.2 ∣ lcmL (vs.drop n) := fun g hg => by
    have h2 := (List.of_mem_zip hg).2
    exact ⟨hv _ (List.mem_of_mem_drop h2), lcm_dvd _ _ h2⟩
  unfold Kp
  rw [e1, e2, e3, lcm_snoc, Wm_snoc, Wm_scale hm, Int.mul_fdiv_cancel _ (by omega)]
  generalize Wm (lcmL (vs.drop n)) (ws ps vs n) = W
  generalize lcmL (vs.drop n) = M
  generalize val (n : Int) (ps.getLastD []) = v
  show z.2 * W + v * z.1 * M = 0 ↔ z.1 * (M * v) = -W * z.2
  constructor
  · intro h; grind
  · intro h; grind
theorem next_keeps {ps : List (List Int)} {vs : List (Int × Int)} {n : Nat} (h0 : ps ≠ []) (hn : n + ps.length = vs.length + 1) (hv : ∀ f ∈ vs, 1 ≤ f.2) (hp : val (n : Int) (ps.getLastD []) ≠ 0) : Frc (nextF ps vs) ∧ Kp ps (vs ++ [nextF ps vs]) n := by
  have lp := List.length_pos_iff.mpr h0
  have M1 := lcm_pos (vs.drop n) fun f hf => hv f (List.mem_of_mem_drop hf)
  have en : vs.length - (ps.length - 1) = n := by omega
  have e : nextF ps vs = lowF (Wm (lcmL (vs.drop n)) (ws ps vs n)) (-(lcmL (vs.drop n) * val (n : Int) (ps.getLastD []))) := by unfold nextF; rw [en]
  have b0 : -(lcmL (vs.drop n) * val (n : Int) (ps.getLastD [])) ≠ 0 := by
    have := Int.mul_ne_zero (show lcmL (vs.drop n) ≠ 0 by omega) hp
    omega
  obtain ⟨l1, l2⟩ := low_is (t := Wm (lcmL (vs.drop n)) (ws ps vs n)) b0
  rw [e]
  refine ⟨l1, (kp_snoc h0 hn hv l1.1).mpr ?_⟩
  generalize lcmL (vs.drop n) * val (n : Int) (ps.getLastD []) = B at l2
  rw [Int.mul_neg] at l2
  rw [Int.neg_mul]; omega
theorem next_uniq {ps : List (List Int)} {vs : List (Int × Int)} {z : Int × Int} {n : Nat} (h0 : ps ≠ []) (hn : n + ps.length = vs.length + 1) (hv : ∀ f ∈ vs, 1 ≤ f.2) (hp : val (n : Int) (ps.getLastD []) ≠ 0) (hz : Frc z) (h : Kp ps (vs ++ [z]) n) : z = nextF ps vs := by
  have lp := List.length_pos_iff.mpr h0
  have M1 := lcm_pos (vs.drop n) fun f hf => hv f (List.mem_of_mem_drop hf)
  have en : vs.length - (ps.length - 1) = n := by omega
  have e : nextF ps vs = lowF (Wm (lcmL (vs.drop n)) (ws ps vs n)) (-(lcmL (vs.drop n) * val (n : Int) (ps.getLastD []))) := by unfold nextF; rw [en]
  have b0 : -(lcmL (vs.drop n) * val (n : Int) (ps.getLastD [])) ≠ 0 := by
    have := Int.mul_ne_zero (show lcmL (vs.drop n) ≠ 0 by omega) hp
    omega
  rw [e]
  refine low_uniq hz b0 ?_
  have := (kp_snoc h0 hn hv hz.1).mp h
  rw [Int.mul_neg, this, Int.neg_mul, Int.neg_neg]
theorem kp_app {ps : List (List Int)} {vs us : List (Int × Int)} {n : Nat} (h : n + ps.length ≤ vs.length) : Kp ps (vs ++ us) n ↔ Kp ps vs n := by
  have e : ((vs ++ us).drop n).take ps.length = (vs.drop n).take ps.length := by
    rw [List.drop_append_of_le_length (by omega), List.take_append_of_le_length (by rw [List.length_drop]; omega)]
  unfold Kp; rw [e]
theorem wm_mul (c M : Int) : ∀ (vs : List Int) (fs : List (Int × Int)), Wm M ((vs.map fun v => v * c).zip fs) = c * Wm M (vs.zip fs)
  | [], _ => by simp [Wm]
  | _ :: _, [] => by simp [Wm]
  | v :: vs, f :: fs => by
    simp only [List.map_cons, List.zip_cons_cons, Wm]
    rw [wm_mul c M vs fs]; grind
theorem kp_mulR {ps : List (List Int)} {rs : List Int} {fs : List (Int × Int)} {n : Nat} : Kp (ps.map (mulR rs)) fs n ↔ ((n : Int) ∈ rs ∨ Kp ps fs n) := by
  unfold Kp
  have e : (ps.map (mulR rs)).map (val (n : Int)) = (ps.map (val (n : Int))).map fun v => v * prodR n rs := by
    rw [List.map_map, List.map_map]
    refine List.map_congr_left fun p _ => ?_
    exact mulR_val n rs p
  rw [List.length_map, e, wm_mul, Int.mul_eq_zero, prodR_zero]
structure InvV (e : Nat) (vs : List (Int × Int)) : Prop where
  f : ∀ f ∈ vs, Frc f ∧ f.1.natAbs ≤ 2 ^ (300 + 90 * vs.length) * f.2.natAbs
  E : ∃ E : Int, 1 ≤ E ∧ Bd (1 + e * vs.length) E ∧ ∀ f ∈ vs, f.2 ∣ E
theorem InvV.nil (e : Nat) : InvV e [] := ⟨by simp, 1, by decide, Bd.one (by simp), by simp⟩
theorem pow_up {a b : Nat} (h : a ≤ b) : 2 ^ a ≤ 2 ^ b := Nat.pow_le_pow_right (by decide) h
theorem InvV.snoc {e : Nat} {vs : List (Int × Int)} {z : Int × Int} {d : Int} (h : InvV e vs) (hz : Frc z) (hb : z.1.natAbs ≤ 2 ^ (300 + 90 * (vs.length + 1)) * z.2.natAbs) (d1 : 1 ≤ d) (hd : Bd e d) (he : ∀ E : Int, (∀ f ∈ vs, f.2 ∣ E) → z.2 ∣ E * d) : InvV e (vs ++ [z]) := by
  obtain ⟨E, E1, Eb, Ed⟩ := h.E
  refine ⟨fun f hf => ?_, E * d, ?_, ?_, fun f hf => ?_⟩
  · rw [List.length_append, List.length_cons, List.length_nil]
    rcases List.mem_append.mp hf with hf | hf
    · have := h.f f hf
      exact ⟨this.1, Nat.le_trans this.2 (Nat.mul_le_mul_right _ (pow_up (by omega)))⟩
    · rw [List.mem_singleton.mp hf]; exact ⟨hz, hb⟩
  · have := Int.mul_le_mul E1 d1 (by omega) (by omega); omega
  · rw [List.length_append, List.length_cons, List.length_nil, Nat.mul_add]
    exact (Eb.mul hd).mono (by omega)
  · rcases List.mem_append.mp hf with hf | hf
    · exact Int.dvd_trans (Ed f hf) (Int.dvd_mul_right _ _)
    · rw [List.mem_singleton.mp hf]; exact he E Ed
theorem InvV.draw {e : Nat} {vs : List (Int × Int)} {z : Int × Int} (h : InvV e vs) (hz : Frc z) (hx : Bd 200 z.1) (hy : z.2.natAbs ≤ 1000) (h10 : 10 ≤ e) : InvV e (vs ++ [z]) := by
  refine h.snoc hz ?_ hz.1 (Bd.of_lt (m := 1001) (by omega) (Nat.le_trans (by decide) (pow_up h10))) fun E _ => Int.dvd_mul_left _ _
  have h1 : z.1.natAbs ≤ 2 ^ 200 := Nat.le_of_lt hx
  have h2 : (2 : Nat) ^ 200 ≤ 2 ^ (300 + 90 * (vs.length + 1)) := pow_up (by omega)
  have h3 : 1 ≤ z.2.natAbs := by have := hz.1; omega
  exact Nat.le_trans (Nat.le_trans h1 h2) (Nat.le_mul_of_pos_right _ h3)
theorem wm_le {M : Int} {V B : Nat} (hM : 1 ≤ M) : ∀ (gs : List (Int × (Int × Int))), (∀ g ∈ gs, g.1.natAbs ≤ V ∧ 1 ≤ g.2.2 ∧ g.2.2 ∣ M ∧ g.2.1.natAbs ≤ B * g.2.2.natAbs) → (Wm M gs).natAbs ≤ gs.length * (V * (B * M.natAbs))
  | [], _ => by simp [Wm]
  | g :: gs, h => by
    have ih := wm_le hM gs fun f hf => h f (by simp [hf])
    obtain ⟨h1, h2, ⟨c, hc⟩, h4⟩ := h g (by simp)
    have e : (g.1 * g.2.1 * M.fdiv g.2.2).natAbs ≤ V * (B * M.natAbs) := by
      have ec : M.fdiv g.2.2 = c := by rw [hc]; exact Int.mul_fdiv_cancel_left c (by omega)
      rw [ec, Int.natAbs_mul, Int.natAbs_mul, Nat.mul_assoc]
      refine Nat.mul_le_mul h1 ?_
      refine Nat.le_trans (Nat.mul_le_mul_right _ h4) ?_
      rw [hc, Int.natAbs_mul, Nat.mul_assoc]; exact Nat.le_refl _
    have := Int.natAbs_add_le (g.1 * g.2.1 * M.fdiv g.2.2) (Wm M gs)
    simp only [Wm, List.length_cons]
    rw [Nat.add_mul, Nat.one_mul]
    omega
theorem wm_two {M M' : Int} {gs : List (Int × (Int × Int))} (h : ∀ g ∈ gs, 1 ≤ g.2.2 ∧ g.2.2 ∣ M) (h' : ∀ g ∈ gs, 1 ≤ g.2.2 ∧ g.2.2 ∣ M') : Wm M gs * M' = Wm M' gs * M := by
  have a := Wm_scale (k := M') h
  have b := Wm_scale (k := M) h'
  rw [Int.mul_comm M' M] at b
  rw [a] at b
  rw [Int.mul_comm, b, Int.mul_comm]
theorem InvV.next {e : Nat} {ps : List (List Int)} {vs : List (Int × Int)} {n : Nat} (h : InvV e vs) (h0 : ps ≠ []) (hn : n + ps.length = vs.length + 1) (l5 : ps.length ≤ 9) (hp : val (n : Int) (ps.getLastD []) ≠ 0) (hv : ∀ p ∈ ps, (val (n : Int) p).natAbs ≤ 2 ^ 84) (he : Bd e (val (n : Int) (ps.getLastD []))) : InvV e (vs ++ [nextF ps vs]) := by
  have v1 : ∀ f ∈ vs, 1 ≤ f.2 := fun f hf => (h.f f hf).1.1
  obtain ⟨fz, kz⟩ := next_keeps h0 hn v1 hp
  have lp := List.length_pos_iff.mpr h0
  have M1 := lcm_pos (vs.drop n) fun f hf => v1 f (List.mem_of_mem_drop hf)
  have eq := (kp_snoc h0 hn v1 fz.1).mp kz
  -- over any common multiple
  have eqE : ∀ E : Int, 1 ≤ E → (∀ f ∈ vs, f.2 ∣ E) → (nextF ps vs).1 * (E * val (n : Int) (ps.getLastD [])) = -(Wm E (ws ps vs n)) * (nextF ps vs).2 := fun E E1 hE => by
    have t := wm_two (M := lcmL (vs.drop n)) (M' := E) (gs := ws ps vs n) (fun g hg => by have h2 := (List.of_mem_zip hg).2; exact ⟨v1 _ (List.mem_of_mem_drop h2), lcm_dvd _ _ h2⟩) (fun g hg => by have h2 := (List.of_mem_zip hg).2; exact ⟨v1 _ (List.mem_of_mem_drop h2), hE _ (List.mem_of_mem_drop h2)⟩)
    generalize nextF ps vs = z at eq fz
    generalize Wm (lcmL (vs.drop n)) (ws ps vs n) = W at eq t
    generalize Wm E (ws ps vs n) = W' at t
    generalize lcmL (vs.drop n) = M at eq t M1
    generalize val (n : Int) (ps.getLastD []) = v at eq
    have : M * (z.1 * (E * v)) = M * (-W' * z.2) := by
      have a1 : M * (z.1 * (E * v)) = z.1 * (M * v) * E := by grind
      have a2 : M * (-W' * z.2) = -(W' * M) * z.2 := by grind
      rw [a1, a2, eq, ← t]; grind
    exact Int.eq_of_mul_eq_mul_left (by omega) this
  refine h.snoc (d := ((val (n : Int) (ps.getLastD [])).natAbs : Int)) fz ?_ (by omega) (by show (((val (n : Int) (ps.getLastD [])).natAbs : Int)).natAbs < 2 ^ e; rw [Int.natAbs_natCast]; exact he) fun E hE => ?_
  · obtain ⟨E, E1, _, hE⟩ := h.E
    have q := eqE E E1 hE
    have wl := wm_le (V := 2 ^ 84) (B := 2 ^ (300 + 90 * vs.length)) E1 (ws ps vs n) fun g hg => by
      obtain ⟨h1, h2⟩ := List.of_mem_zip hg
      obtain ⟨p, hp', e1⟩ := List.mem_map.mp h1
      have hm := List.mem_of_mem_drop h2
      exact ⟨by rw [← e1]; exact hv p hp', v1 _ hm, hE _ hm, (h.f _ hm).2⟩
    have lw : (ws ps vs n).length ≤ 8 := by unfold ws; rw [List.length_zip, List.length_map, List.length_drop]; omega
    have q2 := congrArg Int.natAbs q
    rw [Int.natAbs_mul, Int.natAbs_mul, Int.natAbs_mul, Int.natAbs_neg] at q2
    generalize nextF ps vs = z at q2 fz
    generalize (Wm E (ws ps vs n)).natAbs = W at q2 wl
    have vp : 1 ≤ (val (n : Int) (ps.getLastD [])).natAbs := by omega
    generalize (val (n : Int) (ps.getLastD [])).natAbs = v at q2 vp
    have Ep : 1 ≤ E.natAbs := by omega
    generalize E.natAbs = En at q2 wl Ep
    generalize (ws ps vs n).length = k at wl lw
    have a1 : z.1.natAbs * En ≤ W * z.2.natAbs := by
      rw [← q2]
      refine Nat.mul_le_mul_left _ ?_
      exact Nat.le_mul_of_pos_right _ vp
    have a2 : W ≤ 2 ^ 3 * (2 ^ 84 * (2 ^ (300 + 90 * vs.length) * En)) := Nat.le_trans wl (Nat.mul_le_mul_right _ lw)
    have a3 : z.1.natAbs * En ≤ (2 ^ (300 + 90 * (vs.length + 1)) * z.2.natAbs) * En := by
      refine Nat.le_trans a1 (Nat.le_trans (Nat.mul_le_mul_right _ a2) ?_)
      have e5 : 2 ^ 3 * (2 ^ 84 * (2 ^ (300 + 90 * vs.length) * En)) * z.2.natAbs = 2 ^ (3 + 84 + (300 + 90 * vs.length)) * z.2.natAbs * En := by
        rw [Nat.pow_add 2 (3 + 84) (300 + 90 * vs.length), Nat.pow_add 2 3 84]
        generalize 2 ^ (300 + 90 * vs.length) = X
        generalize (2 : Nat) ^ 84 = Y
        generalize (2 : Nat) ^ 3 = Z
        simp only [Nat.mul_assoc, Nat.mul_comm, Nat.mul_left_comm]
      rw [e5]
      exact Nat.mul_le_mul_right _ (Nat.mul_le_mul_right _ (pow_up (by omega)))
    exact Nat.le_of_mul_le_mul_right a3 Ep
  · by_cases E0 : E = 0
    · rw [E0, Int.zero_mul]; exact Int.dvd_zero _
    · have q := eqE (E.natAbs : Int) (by omega) fun f hf => Int.dvd_natAbs.mpr (hE f hf)
      have d1 : (nextF ps vs).2 ∣ (E.natAbs : Int) * val (n : Int) (ps.getLastD []) := cop_dvd (b := (nextF ps vs).1) ⟨-(Wm (E.natAbs : Int) (ws ps vs n)), by rw [q, Int.mul_comm]⟩ (by rw [Int.gcd_comm]; exact fz.2)
      have d2 := Int.natAbs_dvd_natAbs.mpr d1
      rw [Int.natAbs_mul, Int.natAbs_natCast] at d2
      refine Int.natAbs_dvd_natAbs.mp ?_
      rw [Int.natAbs_mul, Int.natAbs_natCast]; exact d2
def Good (vs : List (Int × Int)) : Prop := (∀ f ∈ vs, Frc f ∧ Bd 20000 f.1) ∧ ∃ E : Int, 1 ≤ E ∧ Bd 2900 E ∧ ∀ f ∈ vs, f.2 ∣ E
theorem InvV.good {e : Nat} {vs : List (Int × Int)} (h : InvV e vs) (hl : vs.length ≤ 100) (he : 1 + e * vs.length ≤ 2900) : Good vs := by
  obtain ⟨E, E1, Eb, Ed⟩ := h.E
  refine ⟨fun f hf => ⟨(h.f f hf).1, ?_⟩, E, E1, Eb.mono he, Ed⟩
  have h1 := (h.f f hf).2
  have h2 : f.2.natAbs ≤ E.natAbs := Nat.le_of_dvd (by omega) (Int.natAbs_dvd_natAbs.mpr (Ed f hf))
  have h3 : E.natAbs < 2 ^ 2900 := Eb.mono he
  show f.1.natAbs < 2 ^ 20000
  have h4 : (2 : Nat) ^ (300 + 90 * vs.length) ≤ 2 ^ 9300 := pow_up (by omega)
  have h5 := Nat.mul_le_mul h4 (show f.2.natAbs ≤ 2 ^ 2900 by omega)
  rw [← Nat.pow_add] at h5
  have h6 : (2 : Nat) ^ (9300 + 2900) < 2 ^ 20000 := Nat.pow_lt_pow_right (by decide) (by decide)
  omega
theorem lcm_in {b f E : Int} (hb : 1 ≤ b) (hf : 1 ≤ f) (h1 : b ∣ E) (h2 : f ∣ E) : b * f.fdiv ((Nat.gcd b.natAbs f.natAbs : Nat) : Int) ∣ E := by
  obtain ⟨g, hg, g0, _, _, _, _, _⟩ := lcm_step hb hf
  rw [hg]
  have gb : g ∣ b := by rw [← hg]; exact Int.dvd_natAbs.mp (Int.natCast_dvd_natCast.mpr (Nat.gcd_dvd_left _ _))
  have gf : g ∣ f := by rw [← hg]; exact Int.dvd_natAbs.mp (Int.natCast_dvd_natCast.mpr (Nat.gcd_dvd_right _ _))
  obtain ⟨f', rfl⟩ := gf
  obtain ⟨b', rfl⟩ := gb
  rw [Int.mul_fdiv_cancel_left f' g0]
  have cop : Int.gcd f' b' = 1 := by
    have e : Int.gcd (g * b') (g * f') = g.natAbs * Int.gcd b' f' := Int.gcd_mul_left ..
    have e2 : ((Int.gcd (g * b') (g * f') : Nat) : Int) = g := hg
    have e3 : (Int.gcd (g * b') (g * f')) = g.natAbs := by omega
    rw [e3] at e
    have := Nat.eq_of_mul_eq_mul_left (show 0 < g.natAbs by omega) (show g.natAbs * Int.gcd b' f' = g.natAbs * 1 by omega)
    rw [Int.gcd_comm]; exact this
  obtain ⟨c, rfl⟩ := h1
  have h3 : f' ∣ b' * c := Int.dvd_of_mul_dvd_mul_left g0 (by rw [← Int.mul_assoc]; exact h2)
  have h4 : f' ∣ c := cop_dvd h3 cop
  exact Int.mul_dvd_mul_left _ h4
def carryF (ps : List (List Int)) (vs : List (Int × Int)) : Nat → List (Int × Int)
  | 0 => vs
  | k + 1 => carryF ps vs k ++ [nextF ps (carryF ps vs k)]
theorem carry_len (ps : List (List Int)) (vs : List (Int × Int)) : ∀ k, (carryF ps vs k).length = vs.length + k
  | 0 => rfl
  | k + 1 => by
    have := carry_len ps vs k
    simp only [carryF, List.length_append, List.length_cons, List.length_nil]; omega
theorem lastD_map {ps : List (List Int)} {f : List Int → List Int} (h : ps ≠ []) : (ps.map f).getLastD [] = f (ps.getLastD []) := by
  rw [List.getLastD_eq_getLast?, List.getLastD_eq_getLast?, List.getLast?_map, List.getLast?_eq_some_getLast h]; rfl
def spWtd (K : PySem.W.Frag) : Sp := fun vs H Q _ => ∃ (p : Addr) (v x y : Int), vs = [.int v, .ref p] ∧ SqT K H p [.int x, .int y] ∧ Frc (x, y) ∧ Bd 3000 v ∧ Bd 20000 x ∧ Bd 3000 y ∧
  ∀ a b : Int, Frc (a, b) → a * y = v * x * b → b ∣ y → a.natAbs ≤ (v * x).natAbs → b.natAbs ≤ y.natAbs → mkT H Q a b
theorem ok_weighted {P : Program} {w : World} {K : PySem.W.Frag} {mg : Str → Option Value} {base : Heap} (T : Tx K mg) : FnOk P w K mg base CX0 2 T.a_weighted T.fd_weighted ["weight", "fraction"] (spWtd K) := by
  refine T.F_weighted.ok sc_weighted (fun vs H Q E h => ?_) (fun cdv A outer s H vs Q E hr h => ?_)
  · obtain ⟨p, v, x, y, rfl, _⟩ := h
    rfl
  obtain ⟨p, v, x, y, rfl, hP, hF, bv, bx, bY, q⟩ := h
  have y1 : 1 ≤ y := hF.1
  have hg : Nat.gcd x.natAbs y.natAbs = 1 := hF.2
  refine ⟨_, ((pss_cons (ps_set (i := 2) sc_weighted.nd rfl (Or.inl rfl) (pe_call (FnOk.mono (ok_divisor T) (by decide)) hr rfl T.m_divisor T.F_divisor.kp T.b_divisor .nil pass0 (pa_cons (pv 0) (pa_cons (pe_ix ix_tup (pv 1) pe_int (fun _ _ => rfl)) pa_nil))))
    (pss_one (ps_ret (pe_tup (pa_cons (pe_op op_mulZ (pe_op op_fdivB (pv 0) (pv 2)) (pe_ix ix_tup (pv 1) pe_int (fun _ _ => rfl))) (pa_cons (pe_op op_fdivB (pe_ix ix_tup (pv 1) pe_int (fun _ _ => rfl)) (pv 2)) pa_nil))))))), ?_⟩
  k_units
  obtain ⟨g, hgg, g0, v', y', e1, e2, hv, hy, y1', c⟩ := wtd (v := v) y1 hg
  have gs : g.natAbs ≤ y.natAbs := by rw [hy, Int.natAbs_mul]; exact Nat.le_mul_of_pos_right _ (by omega)
  have bY' : y.natAbs < 2 ^ 3000 := bY
  have p1 : (2 : Nat) ^ 3000 ≤ 2 ^ 4000 := Nat.pow_le_pow_right (by decide) (by decide)
  have p2 : (2 : Nat) ^ 3000 ≤ 2 ^ 9000 := Nat.pow_le_pow_right (by decide) (by decide)
  have bv' : v'.natAbs ≤ v.natAbs := by rw [hv, Int.natAbs_mul]; exact Nat.le_mul_of_pos_left _ (Int.natAbs_pos.mpr g0)
  have bV : Bd 3000 v' := Nat.lt_of_le_of_lt bv' bv
  refine ⟨_, hP, _, rfl, v, y, rfl, by omega, ?_⟩
  rw [hgg]
  refine ⟨g, rfl, g0, by omega, _, hP, _, rfl, x, rfl, ?_⟩
  rw [e1]
  refine ⟨bV.fits bx (by decide), _, hP, _, rfl, y, rfl, ?_⟩
  refine ⟨g, rfl, g0, by omega, by decide, ?_⟩
  rw [e2]
  refine q (v' * x) y' ⟨y1', c⟩ (by rw [hv]; conv => lhs; rw [hy]
                                    grind) ⟨g, by rw [Int.mul_comm]; exact hy⟩ ?_ ?_
  · rw [Int.natAbs_mul, Int.natAbs_mul]; exact Nat.mul_le_mul_right _ bv'
  · rw [hy, Int.natAbs_mul]; exact Nat.le_mul_of_pos_left _ (Int.natAbs_pos.mpr g0)
def spTot (K : PySem.W.Frag) : Sp := fun vs H Q _ => ∃ (p : Addr) (as : List Addr) (fs : List (Int × Int)), vs = [.ref p] ∧ SqL K H p (as.map V.ref) ∧ TL K H as fs ∧ fs.length ≤ 6 ∧ (∀ f ∈ fs, Frc f ∧ Bd 100000 f.1) ∧ (∃ E : Int, 1 ≤ E ∧ Bd 2900 E ∧ ∀ f ∈ fs, f.2 ∣ E) ∧
  ∀ x y : Int, Frc (x, y) → (∀ M, (∀ f ∈ fs, f.2 ∣ M) → x * M = y * Sm M fs) → ∀ r H', Same H H' → SqT K H' r [.int x, .int y] → Q (.ref r) H'
theorem ok_total {P : Program} {w : World} {K : PySem.W.Frag} {mg : Str → Option Value} {base : Heap} (T : Tx K mg) : FnOk P w K mg base CX0 3 T.a_total T.fd_total ["fractions"] (spTot K) := by
  refine T.F_total.ok sc_total (fun vs H Q E h => ?_) (fun cdv A outer s H vs Q E hr h => ?_)
  · obtain ⟨p, as, fs, rfl, _⟩ := h
    rfl
  obtain ⟨p, as, fs, rfl, hP, hL, l6, hF0, ⟨E0', E1, Eb, Ed⟩, q⟩ := h
  have sub : ∀ c : Int, c ∣ E0' → Bd 2900 c := fun c hc => Nat.lt_of_le_of_lt (Nat.le_of_dvd (by omega) (Int.natAbs_dvd_natAbs.mpr hc)) Eb
  have hF : ∀ f ∈ fs, Frc f ∧ Bd 100000 f.1 ∧ Bd 2900 f.2 ∧ f.2 ∣ E0' := fun f hf => ⟨(hF0 f hf).1, (hF0 f hf).2, sub _ (Ed f hf), Ed f hf⟩
  refine ⟨_, ((pss_cons (ps_setCIf (i := 1) rfl (blkok rfl sub_nil fv_nil) (pi_list (pv 0)) (fun _ _ _ _ => (pt_cmpR op_ne (pe_ix (ix_tupK (K := K) rfl) (pv 0) pe_int (fun _ _ => rfl)) pe_int (nomark _))) (fun _ _ _ _ => (pv 0)) sc_total.nd rfl rfl)
    (pss_cons (ps_if (pt_cmpR op_eq (pe_callB call_len_seq rfl T.z_len bt_len (pa_cons (pv 1) pa_nil)) pe_int (nomark _)) (pss_one (ps_ret (pe_ix ix_list (pv 1) pe_int (fun _ _ => rfl)))) pss_nil)
    (pss_cons (ps_set (i := 2) sc_total.nd rfl (Or.inr rfl) pe_int)
    (pss_cons (ps_for PassesOwn.never rfl (pi_list (pv 1)) (pg_name (i := 3) sc_total.nd rfl (Or.inl rfl)) (pss_one (ps_aug (i := 2) sc_total.nd rfl (Or.inr rfl) (pe_op op_fdivB (pe_ix ix_tup (pv 3) pe_int (fun _ _ => rfl)) (pe_call (FnOk.mono (ok_divisor T) (by decide)) hr rfl T.m_divisor T.F_divisor.kp T.b_divisor .nil pass0 (pa_cons (pv 2) (pa_cons (pe_ix ix_tup (pv 3) pe_int (fun _ _ => rfl)) pa_nil)))) ip_mulZ)))
    (pss_one (ps_ret (pe_call (FnOk.mono (ok_ratio T) (by decide)) hr rfl T.m_ratio T.F_ratio.kp T.b_ratio .nil passF (pa_cons (pe_callB (call_sumL rfl) rfl T.z_sum boot_sum (pa_cons (pe_lcomp rfl (blkok rfl (sub_cons rfl sub_nil) (fv_cons 2 "bottom" (by decide) rfl (Or.inl rfl) (Or.inl rfl) ⟨_, rfl⟩ fv_nil)) (pi_list (pv 1)) (fun _ _ _ _ => (pe_op op_mulZ (pe_ix (ix_tupK (K := K) rfl) (pv 0) pe_int (fun _ _ => rfl)) (pe_op op_fdivB (pv 1) (pe_ix (ix_tupK (K := K) rfl) (pv 0) pe_int (fun _ _ => rfl)))))) pa_nil)) (pa_cons (pv 2) pa_nil)))))))))), ?_⟩
  k_units
  refine ⟨⟨_, hP⟩, fun D nD => ?_⟩
  obtain ⟨Pc, hPc⟩ : ∃ Pc : Nat → Hp → Prop, ∀ j Hx, Pc j Hx ↔ ∃ bs : List Addr, Hx D = some (.lst (bs.map V.ref)) ∧ TL K Hx bs ((fs.take j).filter fun f => f.1 != 0) ∧ Same H Hx := ⟨_, fun _ _ => Iff.rfl⟩
  refine cl_listIf (xs := as.map V.ref) Pc ((hPc _ _).mpr ⟨[], upd_same, TL.nil _ _, same_upd nD _⟩) (fun i Hx _ z => by obtain ⟨_, _, _, z⟩ := (hPc i Hx).mp z; exact z.seq hP) ?_ ?_
  · intro j v Hx hv hc
    obtain ⟨bs, k1, k2, k4⟩ := (hPc _ _).mp hc
    obtain ⟨a', f, rfl, ha, hf, hA⟩ := hL.nth hv
    have lb : bs.length ≤ 6 := by rw [k2.len]; exact Nat.le_trans (List.length_filter_le _ _) (Nat.le_trans (List.length_take_le' _ _) l6)
    (iterate 3 (k_units; (try simp only [bst])); k_units)
    refine ⟨_, k4.seqT hA, _, rfl, ?_⟩
    k_units
    have et : fs.take (j + 1) = fs.take j ++ [f] := by rw [List.take_succ, hf]; rfl
    refine ite2 (fun h => ⟨_, k1, by rw [List.length_map]; exact small1000 (by omega), (hPc _ _).mpr ⟨bs ++ [a'], by rw [upd_same]; simp, ?_, k4.more nD⟩⟩) (fun h => (hPc _ _).mpr ⟨bs, k1, ?_, k4⟩)
    · rw [et, List.filter_append, List.filter_cons_of_pos (by simpa using h)]
      exact TL.upd (TL.snoc k2 (k4.seqT hA)) k1
    · rw [et, List.filter_append, List.filter_cons_of_neg (by simpa using h)]
      simpa using k2
  intro G1 hc
  obtain ⟨bs, eD, lv, s1⟩ := (hPc _ _).mp hc
  rw [List.length_map, hL.len, List.take_length] at lv
  have hlv : ∀ f ∈ fs.filter (fun f => f.1 != 0), Frc f ∧ Bd 100000 f.1 ∧ Bd 2900 f.2 ∧ f.2 ∣ E0' := fun f hf => hF f ((List.mem_filter.mp hf).1)
  have ll : (fs.filter fun f => f.1 != 0).length ≤ 6 := Nat.le_trans (List.length_filter_le _ _) l6
  have sl : ∀ M, Sm M (fs.filter fun f => f.1 != 0) = Sm M fs := fun M => Sm_live M fs
  have dl : ∀ M, (∀ f ∈ fs, f.2 ∣ M) → ∀ f ∈ fs.filter (fun f => f.1 != 0), f.2 ∣ M := fun M h f hf => h f ((List.mem_filter.mp hf).1)
  generalize (fs.filter fun f => f.1 != 0) = gs at lv hlv ll sl dl
  refine ⟨D, rfl, _, .inl (SqL.of eD), ?_⟩
  rw [List.length_map, lv.len]
  refine ite2 (fun h => ?_) (fun h => ?_)
  · obtain ⟨f, rfl⟩ := List.length_eq_one_iff.mp (show gs.length = 1 by omega)
    obtain ⟨b, rfl⟩ := List.length_eq_one_iff.mp (show bs.length = 1 by rw [lv.len]; rfl)
    have hf := hlv f (by simp)
    refine ⟨D, rfl, _, SqL.of eD, _, rfl, q f.1 f.2 hf.1 (fun M hM => ?_) b _ s1 (lv.get 0 b f rfl rfl)⟩
    rw [← sl M]
    simp only [Sm]
    obtain ⟨c, rfl⟩ := dl M hM f (by simp)
    rw [Int.mul_fdiv_cancel_left c (by have := hf.1.1; omega)]; grind
  refine ⟨D, rfl, ⟨_, SqL.of eD⟩, ?_⟩
  obtain ⟨Pv, hPv⟩ : ∃ Pv : Nat → L2.St → Hp → Prop, ∀ i σ Hx, Pv i σ Hx ↔ ∃ (bo : Int) (r3 : Option V), σ = [some (V.ref p), some (V.ref D), some (V.int bo), r3] ∧ Hx = G1 ∧ 1 ≤ bo ∧ (∀ f ∈ gs.take i, f.2 ∣ bo) ∧ bo ∣ E0' := ⟨_, fun _ _ _ => Iff.rfl⟩
  refine lp_list (xs := bs.map V.ref) Pv ((hPv _ _ _).mpr ⟨1, _, rfl, rfl, by decide, by simp, Int.one_dvd _⟩) (fun i σ Hx _ z => by obtain ⟨_, _, _, rfl, _⟩ := (hPv i σ Hx).mp z; exact SqL.of eD) ?_ ?_
  · intro i v σ Hx hv hp
    obtain ⟨bo, r3, rfl, rfl, b1, hd, bb⟩ := (hPv _ _ _).mp hp
    obtain ⟨a', f, rfl, ha, hf, hA⟩ := lv.nth hv
    have hi := (List.getElem?_eq_some_iff.mp hf).1
    have ff := hlv f (List.mem_of_getElem? hf)
    obtain ⟨g, hg, g0, gl, c1, c2, c3, c4⟩ := lcm_step b1 ff.1.1
    have b4 : f.2.natAbs < 2 ^ 2900 := ff.2.2.1
    have p1 : (2 : Nat) ^ 2900 ≤ 2 ^ 4000 := Nat.pow_le_pow_right (by decide) (by decide)
    have p2 : (2 : Nat) ^ 2900 ≤ 2 ^ 9000 := Nat.pow_le_pow_right (by decide) (by decide)
    have bq : Bd 2900 (f.2.fdiv g) := Nat.lt_of_le_of_lt c4 ff.2.2.1
    have c5 := lcm_in b1 ff.1.1 bb ff.2.2.2
    rw [hg] at c5
    k_units
    refine ⟨_, hA, _, rfl, _, hA, _, rfl, bo, f.2, rfl, by omega, ?_⟩
    rw [hg]
    refine ⟨_, rfl, g, rfl, g0, by omega, (sub _ bb).fits bq (by omega), (hPv _ _ _).mpr ⟨_, _, rfl, rfl, c1, fun f' hf' => ?_, c5⟩⟩
    rw [List.take_succ, hf] at hf'
    rcases List.mem_append.mp hf' with z | z
    · exact Int.dvd_trans (hd f' z) c2
    · rw [show f' = f by simpa using z]; exact c3
  · intro σ Hx hp
    obtain ⟨bo, r3, rfl, rfl, b1, hd, bb⟩ := (hPv _ _ _).mp hp
    rw [List.length_map, lv.len, List.take_length] at hd
    k_units
    refine ⟨⟨_, SqL.of eD⟩, fun D2 nD2 => ?_⟩
    obtain ⟨Pd, hPd⟩ : ∃ Pd : Nat → Hp → Prop, ∀ j Hz, Pd j Hz ↔ Hz D2 = some (.lst (((gs.take j).map fun f => f.1 * bo.fdiv f.2).map V.int)) ∧ Same Hx Hz := ⟨_, fun _ _ => Iff.rfl⟩
    refine cl_list (xs := bs.map V.ref) Pd ((hPd _ _).mpr ⟨by rw [upd_same]; rfl, same_upd nD2 _⟩) (fun i Hz _ z => SqL.of (((hPd i Hz).mp z).2 _ _ eD)) ?_ ?_
    · intro j v Hz hv hc
      obtain ⟨k1, k2⟩ := (hPd _ _).mp hc
      obtain ⟨a', f, rfl, ha, hf, hA⟩ := lv.nth hv
      have hj := (List.getElem?_eq_some_iff.mp hf).1
      have ff := hlv f (List.mem_of_getElem? hf)
      have b4 : f.2.natAbs < 2 ^ 2900 := ff.2.2.1
      have p2 : (2 : Nat) ^ 2900 ≤ 2 ^ 9000 := Nat.pow_le_pow_right (by decide) (by decide)
      have f1 := ff.1.1
      have bq : Bd 2900 (bo.fdiv f.2) := by
        obtain ⟨c, hc⟩ := hd f (List.mem_of_getElem? hf)
        rw [hc, Int.mul_fdiv_cancel_left c (by omega)]
        exact sub c (Int.dvd_trans ⟨f.2, by rw [hc, Int.mul_comm]⟩ bb)
      (iterate 3 (k_units; (try simp only [bst, Option.getD_some])); k_units)
      refine ⟨_, k2.seqT hA, _, rfl, _, k2.seqT hA, _, rfl, f.2, rfl, by omega, by omega, f.1, rfl, ff.2.1.fits bq (by decide), _, k1, by rw [List.length_map, List.length_map, List.length_take]; exact small1000 (by omega), (hPd _ _).mpr ⟨?_, k2.more nD2⟩⟩
      rw [upd_same, List.take_succ, hf]; simp
    intro H3 hc
    obtain ⟨k1, k2⟩ := (hPd _ _).mp hc
    rw [List.length_map, lv.len, List.take_length] at k1
    refine ⟨D2, rfl, _, SqL.of k1, ?_⟩
    rw [Sm_map]
    refine ⟨_, _, rfl, (sub _ bb).mono (by omega), .inl ⟨by omega, fun x y y1 cg e _ _ r nr => ?_⟩⟩
    refine q x y ⟨y1, cg⟩ (fun M hM => ?_) r _ (s1.trans (k2.trans (same_upd nr _))) (SqT.of upd_same)
    rw [← sl M]
    exact tot_of b1 (fun f hf => ⟨(hlv f hf).1.1, hd f hf⟩) (by rw [e, Int.mul_comm]) M (dl M hM)
def spRSum (K : PySem.W.Frag) : Sp := fun vs H Q _ => ∃ (R Vp : Addr) (as bs : List Addr) (ps : List (List Int)) (fs : List (Int × Int)) (n : Nat), vs = [.ref R, .ref Vp, .int n] ∧ SqL K H R (as.map V.ref) ∧ LL K H as ps ∧ SqL K H Vp (bs.map V.ref) ∧ TL K H bs fs ∧ ps.length ≤ 6 ∧ n ≤ fs.length ∧ n ≤ 500 ∧ (∀ p ∈ ps, p.length ≤ 64 ∧ ∀ x ∈ p, Bd 1300 x) ∧ Good fs ∧
  ∀ x y : Int, Frc (x, y) → (∀ M, (∀ f ∈ (fs.drop n).take ps.length, f.2 ∣ M) → x * M = y * Wm M ((ps.map (val (n : Int))).zip ((fs.drop n).take ps.length))) → ∀ r H', Same H H' → SqT K H' r [.int x, .int y] → Q (.ref r) H'
theorem ok_rule_sum {P : Program} {w : World} {K : PySem.W.Frag} {mg : Str → Option Value} {base : Heap} (T : Tx K mg) : FnOk P w K mg base CX0 4 T.a_rule_sum T.fd_rule_sum ["rule", "values", "n"] (spRSum K) := by
  refine T.F_rule_sum.ok sc_rule_sum (fun vs H Q E h => ?_) (fun cdv A outer s H vs Q E hr h => ?_)
  · obtain ⟨R, Vp, as, bs, ps, fs, n, rfl, _⟩ := h
    rfl
  obtain ⟨R, Vp, as, bs, ps, fs, n, rfl, hR, hL, hV, hT, l6, nf, n5, hp, hf, q⟩ := h
  refine ⟨_, ((pss_cons (ps_set (i := 3) sc_rule_sum.nd rfl (Or.inl rfl) (pe_slice sl_list (pv 1) (po_some (pv 2)) (po_some (pe_op op_add (pv 2) (pe_callB call_len_seq rfl T.z_len bt_len (pa_cons (pv 0) pa_nil))))))
    (pss_one (ps_ret (pe_call (FnOk.mono (ok_total T) (by decide)) hr rfl T.m_total T.F_total.kp T.b_total .nil pass0 (pa_cons (pe_lcomp2 rfl (blkok2 rfl (sub_cons rfl sub_nil) (fv_cons2 2 "n" rfl (Or.inl rfl) (Or.inl rfl) ⟨_, rfl⟩ fv_nil2)) (pi_zip rfl T.z_zip (pa_cons (pv 0) (pa_cons (pv 3) pa_nil))) (fun _ _ _ _ => (pe_call (FnOk.mono (ok_weighted T) (by decide)) hr rfl T.m_weighted T.F_weighted.kp T.b_weighted .nil pass0 (pa_cons (pe_call (FnOk.mono (ok_poly_value T) (by decide)) hr rfl T.m_poly_value T.F_poly_value.kp T.b_poly_value .nil pass0 (pa_cons (pv 0) (pa_cons (pv 2) pa_nil))) (pa_cons (pv 1) pa_nil))))) pa_nil)))))), ?_⟩
  k_units
  refine ⟨_, .inl hR, _, hV, fun Aa nA => ?_⟩
  rw [List.length_map, hL.len, cut_some bs n ps.length (by rw [hT.len]; exact nf)]
  have w1 := same_upd nA (.lst (((bs.drop n).take ps.length).map V.ref))
  have gA : upd H Aa (.lst (((bs.drop n).take ps.length).map V.ref)) Aa = _ := upd_same
  generalize upd H Aa (.lst (((bs.drop n).take ps.length).map V.ref)) = G1 at w1 gA ⊢
  have hC := (hT.part n ps.length).same w1
  obtain ⟨hf1, E0', E1, Eb, Ed⟩ := hf
  have sub : ∀ c : Int, c ∣ E0' → Bd 2900 c := fun c hc => Nat.lt_of_le_of_lt (Nat.le_of_dvd (by omega) (Int.natAbs_dvd_natAbs.mpr hc)) Eb
  have hcf : ∀ f ∈ (fs.drop n).take ps.length, Frc f ∧ Bd 20000 f.1 ∧ f.2 ∣ E0' := fun f h => ⟨(hf1 f (List.mem_of_mem_drop (List.mem_of_mem_take h))).1, (hf1 f (List.mem_of_mem_drop (List.mem_of_mem_take h))).2, Ed f (List.mem_of_mem_drop (List.mem_of_mem_take h))⟩
  have lc : ((fs.drop n).take ps.length).length ≤ ps.length := by rw [List.length_take]; omega
  generalize (fs.drop n).take ps.length = cf at hC hcf lc q
  generalize (bs.drop n).take ps.length = cb at hC gA
  refine ⟨_, w1.seq hR, _, SqL.of gA, fun D nD => ?_⟩
  obtain ⟨Pz, hPz⟩ : ∃ Pz : Nat → Hp → Prop, ∀ j Hz, Pz j Hz ↔ ∃ (ds : List Addr) (ws : List (Int × Int)), Hz D = some (.lst (ds.map V.ref)) ∧ TL K Hz ds ws ∧ ws.length = j ∧ (∀ f ∈ ws, Frc f ∧ Bd 100000 f.1) ∧
    (∀ M, (∀ f ∈ cf, f.2 ∣ M) → (∀ f ∈ ws, f.2 ∣ M) ∧ Sm M ws = Wm M (((ps.map (val (n : Int))).zip cf).take j)) ∧ Same G1 Hz := ⟨_, fun _ _ => Iff.rfl⟩
  refine cl_zip (xs := as.map V.ref) (ys := cb.map V.ref) Pz ((hPz _ _).mpr ⟨[], [], upd_same, TL.nil _ _, rfl, by simp, fun M _ => ⟨by simp, by simp [Sm, Wm]⟩, same_upd nD _⟩) (fun i Hz _ _ y => by obtain ⟨_, _, _, _, _, _, _, z4⟩ := (hPz i Hz).mp y; exact ⟨(w1.trans z4).seq hR, SqL.of (z4 _ _ gA)⟩) ?_ ?_
  · intro j v1 v2 pt Hz hv1 hv2 hc hpt
    obtain ⟨ds, ws, k1, k2, k3, k5, k6, k4⟩ := (hPz _ _).mp hc
    obtain ⟨b1, p', rfl, hb1, hp', hB1⟩ := hL.nth hv1
    obtain ⟨b2, f, rfl, hb2, hf', hB2⟩ := hC.nth hv2
    have hj : j < ps.length := (List.getElem?_eq_some_iff.mp hp').1
    have hjc : j < cf.length := (List.getElem?_eq_some_iff.mp hf').1
    have u1 := same_upd hpt (.tup [V.ref b1, V.ref b2])
    have u2 := k4.trans u1
    have pok := hp p' (List.mem_of_getElem? hp')
    have fok := hcf f (List.mem_of_getElem? hf')
    have bn : Bd 9 (n : Int) := Bd.of_lt (m := 501) (by omega) (by decide)
    have bv : Bd 2000 (val (n : Int) p') := (val_bd bn p' pok.2).mono (by omega)
    have lds := k2.len
    (iterate 3 (k_units; (try simp only [bst2, Option.getD_some])); k_units)
    refine ⟨b1, p', n, 1300, 9, rfl, (w1.trans u2).seq hB1, pok.1, pok.2, bn, by decide, ?_⟩
    refine ⟨b2, val (n : Int) p', f.1, f.2, rfl, u2.seqT hB2, fok.1, bv.mono (by decide), fok.2.1, (sub _ fok.2.2).mono (by decide), fun a b Fab e db la lb r nr => ?_⟩
    have u3 := u1.trans (same_upd nr (.tup [V.int a, V.int b]))
    refine ⟨_, u3 _ _ k1, by rw [List.length_map]; exact small1000 (by omega), (hPz _ _).mpr ⟨ds ++ [r], ws ++ [(a, b)], by rw [upd_same]; simp, TL.upd (TL.snoc (k2.same u3) (SqT.of upd_same)) (u3 _ _ k1), by simp [k3], fun g hg => ?_, fun M hM => ?_, (k4.trans u3).more nD⟩⟩
    · rcases List.mem_append.mp hg with z | z
      · exact k5 g z
      · rw [List.mem_singleton.mp z]
        exact ⟨Fab, (show Bd (2000 + 20000) a from Nat.lt_of_le_of_lt la (bv.mul fok.2.1)).mono (by decide)⟩
    · obtain ⟨m1, m2⟩ := k6 M hM
      have fM := hM f (List.mem_of_getElem? hf')
      refine ⟨fun g hg => ?_, ?_⟩
      · rcases List.mem_append.mp hg with z | z
        · exact m1 g z
        · rw [List.mem_singleton.mp z]; exact Int.dvd_trans db fM
      · have ez : ((ps.map (val (n : Int))).zip cf)[j]? = some (val (n : Int) p', f) := by
          rw [List.getElem?_zip_eq_some]
          exact ⟨by rw [List.getElem?_map, hp']; rfl, hf'⟩
        rw [Sm_snoc, m2, List.take_succ, ez]
        show _ = Wm M (_ ++ [(val (n : Int) p', f)])
        rw [Wm_snoc]
        show _ + a * M.fdiv b = _ + val (n : Int) p' * f.1 * M.fdiv f.2
        rw [wm_one Fab.1 fok.1.1 e db fM]
  · intro Hz hc
    obtain ⟨ds, ws, k1, k2, k3, k5, k6, k4⟩ := (hPz _ _).mp hc
    have em : min (as.map V.ref).length (cb.map V.ref).length = cf.length := by rw [List.length_map, List.length_map, hL.len, hC.len]; omega
    rw [em] at k3 k6
    refine ⟨D, ds, ws, rfl, SqL.of k1, k2, by omega, k5, ⟨E0', E1, Eb, (k6 E0' fun f hf => (hcf f hf).2.2).1⟩, fun x y F e r H' s' hs => q x y F (fun M hM => ?_) r _ (w1.trans (k4.trans s')) hs⟩
    obtain ⟨m1, m2⟩ := k6 M hM
    rw [e M m1, m2, List.take_of_length_le (by rw [List.length_zip, List.length_map]; omega)]
def spKeeps (K : PySem.W.Frag) (c d : Addr) : Sp := fun vs H Q E => ∃ (R Vp : Addr) (as bs : List Addr) (ps : List (List Int)) (fs : List (Int × Int)) (n : Int), vs = [.ref R, .ref Vp, .int n] ∧ SqL K H R (as.map V.ref) ∧ LL K H as ps ∧ SqL K H Vp (bs.map V.ref) ∧ TL K H bs fs ∧ ps.length ≤ 6 ∧ fs.length ≤ 500 ∧ (∀ p ∈ ps, p.length ≤ 64 ∧ ∀ x ∈ p, Bd 1300 x) ∧ Good fs ∧
  ((¬ IsRule ps ∧ E (.ref c) none H) ∨ (IsRule ps ∧ ((n < 0 ∨ (fs.length : Int) ≤ n + ((ps.length : Int) - 1)) ∧ E (.ref d) none H ∨ (∃ m : Nat, n = (m : Int) ∧ (m : Int) + ((ps.length : Int) - 1) < (fs.length : Int) ∧ ∃ b : Bool, (b = true ↔ Kp ps fs m) ∧ ∀ H', Same H H' → Q (.bl b) H'))))
theorem ok_keeps {P : Program} {w : World} {K : PySem.W.Frag} {mg : Str → Option Value} {base : Heap} (T : Tx K mg) : FnOk P w K mg base (CXE P w) 5 T.a_keeps T.fd_keeps ["rule", "values", "n"] (spKeeps K T.c_NoRule T.c_NoPlace) := by
  refine T.F_keeps.okE sc_keeps (fun vs H Q E h => ?_) (fun cdv A outer s H vs Q E hr h => ?_)
  · obtain ⟨R, Vp, as, bs, ps, fs, n, rfl, _⟩ := h
    rfl
  obtain ⟨R, Vp, as, bs, ps, fs, n, rfl, hR, hL, hV, hT, l6, l5, hp, hf, q⟩ := h
  refine ⟨_, ((pss_cons (ps_set (i := 3) sc_keeps.nd rfl (Or.inl rfl) (pe_call (FnOk.mono (ok_order_of T) (by decide)) hr rfl T.m_order_of T.F_order_of.kp T.b_order_of .nil passE (pa_cons (pv 0) pa_nil)))
    (pss_cons (ps_if (PT.nox (PW.pt (pw_or (pt_cmpR op_lt (pv 2) pe_int (nomark _)) (pw_or1 (pt_cmpR op_ge (pe_op op_add (pv 2) (pv 3)) (pe_callB call_len_seq rfl T.z_len bt_len (pa_cons (pv 1) pa_nil)) (nomark _)))))) (pss_one (ps_raise rfl throwE rfl T.mc_NoPlace T.xc_NoPlace (pa_cons pe_str pa_nil))) pss_nil)
    (pss_one (PS.nox (ps_ret (pe_cmpR (op_eqD hr.units) (pe_call (FnOk.mono (ok_rule_sum T) (by decide)) hr rfl T.m_rule_sum T.F_rule_sum.kp T.b_rule_sum .nil pass0 (pa_cons (pv 0) (pa_cons (pv 1) (pa_cons (pv 2) pa_nil)))) (pe_tup (pa_cons pe_int (pa_cons pe_int pa_nil))) (nomark _)))))))), ?_⟩
  k_units
  refine ⟨R, as, ps, rfl, hR, hL, by omega, ?_⟩
  rcases q with ⟨hn, q⟩ | ⟨hI, q⟩
  · exact .inr ⟨hn, q⟩
  refine .inl ⟨hI, ?_⟩
  refine ite2 (fun h => ?_) (fun h => ⟨_, rfl, _, .inl hV, ?_⟩)
  · refine ⟨by decide, ?_⟩
    rcases q with ⟨_, q⟩ | ⟨m, rfl, _⟩
    · exact q
    · omega
  rw [List.length_map, hT.len]
  refine ite2 (fun h2 => ⟨by decide, ?_⟩) (fun h2 => ?_)
  · rcases q with ⟨_, q⟩ | ⟨m, rfl, hm, _⟩
    · exact q
    · omega
  rcases q with ⟨hbad, _⟩ | ⟨m, rfl, hm, b, hb, q⟩
  · omega
  have lp : 0 < ps.length := List.length_pos_iff.mpr hI.1
  refine ⟨R, Vp, as, bs, ps, fs, m, rfl, hR, hL, hV, hT, l6, by omega, by omega, hp, hf, fun x y F e r H1 s1 hs => ⟨by decide, fun p hp1 => ?_⟩⟩
  have v1 := same_upd hp1 (.tup [V.int 0, V.int 1])
  refine ⟨_, DV.tup (v1.seqT hs) (.cons (.int x) (.cons (.int y) .nil)), _, DV.tup (SqT.of upd_same) (.cons (.int 0) (.cons (.int 1) .nil)), by simp [PyData.canLay0, PyData.canLayAll0], by simp [PyData.canLay0, PyData.canLayAll0], by simp [PyData.depth, PyData.depthAll], ?_⟩
  have e0 := e _ (lcm_dvd _)
  have M1 := lcm_pos ((fs.drop m).take ps.length) fun f h => (hf.1 f (List.mem_of_mem_drop (List.mem_of_mem_take h))).1.1
  have y1 : 1 ≤ y := F.1
  have yg : Nat.gcd x.natAbs y.natAbs = 1 := F.2
  have kz : (x = 0 ∧ y = 1) ↔ Kp ps fs m := by
    unfold Kp
    constructor
    · rintro ⟨rfl, rfl⟩
      rw [Int.zero_mul, Int.one_mul] at e0
      exact e0.symm
    · intro z
      rw [z, Int.mul_zero] at e0
      have x0 : x = 0 := (Int.mul_eq_zero.mp e0).resolve_right (by omega)
      rw [x0, Int.natAbs_zero, Nat.gcd_zero_left] at yg
      exact ⟨x0, by omega⟩
  have ev : PyData.eqv (.tuple [.int x, .int y]) (.tuple [.int 0, .int 1]) = b := by
    rw [Bool.eq_iff_iff, hb, ← kz]
    simp [PyData.eqv, PyData.eqvAll]
  rw [ev]
  exact q _ (s1.trans v1)
theorem cut_from (bs : List Addr) (k : Nat) : cutV (bs.map V.ref) (some (k : Int)) none = (bs.drop k).map V.ref := by
  unfold cutV
  rw [HT.sIx_nat, HT.sIx_none, List.length_map, ← List.map_drop, List.take_of_length_le (by rw [List.length_map, List.length_drop]; omega)]
  congr 1
  by_cases z : k ≤ bs.length
  · rw [Nat.min_eq_left z]
  · rw [Nat.min_eq_right (by omega), List.drop_of_length_le (Nat.le_refl _), List.drop_of_length_le (by omega)]
theorem cut_upto (bs : List Addr) (k : Nat) : cutV (bs.map V.ref) none (some (k : Int)) = (bs.take k).map V.ref := by
  unfold cutV
  rw [HT.sIx_nat, HT.sIx_none, List.length_map, List.drop_zero, ← List.map_take]
  congr 1
  by_cases z : k ≤ bs.length
  · rw [Nat.min_eq_left z]; rfl
  · rw [Nat.min_eq_right (by omega), Nat.sub_zero, List.take_of_length_le (Nat.le_refl _), List.take_of_length_le (by omega)]
structure TH (H : Hp) (as : List Addr) (fs : List (Int × Int)) : Prop where
  len : as.length = fs.length
  get : ∀ (i : Nat) (a : Addr) (f : Int × Int), as[i]? = some a → fs[i]? = some f → H a = some (.tup [.int f.1, .int f.2])
theorem TH.tl {K : PySem.W.Frag} {H : Hp} {as : List Addr} {fs : List (Int × Int)} (h : TH H as fs) : TL K H as fs := ⟨h.len, fun i a f h1 h2 => SqT.of (h.get i a f h1 h2)⟩
theorem TH.same {H H' : Hp} {as : List Addr} {fs : List (Int × Int)} (h : TH H as fs) (s : Same H H') : TH H' as fs := ⟨h.len, fun i a f h1 h2 => s _ _ (h.get i a f h1 h2)⟩
theorem TH.nil (H : Hp) : TH H [] [] := ⟨rfl, fun i a f h1 _ => by simp at h1⟩
theorem TH.snoc {H : Hp} {as : List Addr} {fs : List (Int × Int)} {a : Addr} {f : Int × Int} (h : TH H as fs) (e : H a = some (.tup [.int f.1, .int f.2])) : TH H (as ++ [a]) (fs ++ [f]) := by
  refine ⟨by simp [h.len], fun i b r h1 h2 => ?_⟩
  by_cases z : i < as.length
  · rw [List.getElem?_append_left z] at h1
    rw [List.getElem?_append_left (by rw [← h.len]; exact z)] at h2
    exact h.get i b r h1 h2
  · rw [List.getElem?_append_right (by omega)] at h1
    rw [List.getElem?_append_right (by rw [← h.len]; omega), ← h.len] at h2
    have z2 : i - as.length = 0 := by
      rcases Nat.eq_zero_or_pos (i - as.length) with y | y
      · exact y
      · rw [List.getElem?_eq_none (by simp; omega)] at h1; cases h1
    rw [z2] at h1 h2
    simp at h1 h2
    rw [← h1, ← h2]; exact e
theorem TH.upd {H : Hp} {as : List Addr} {fs : List (Int × Int)} {D : Addr} {ys zs : List V} (h : TH H as fs) (hD : H D = some (.lst ys)) : TH (L2.upd H D (.lst zs)) as fs := by
  refine ⟨h.len, fun i a f h1 h2 => ?_⟩
  have e := h.get i a f h1 h2
  rw [upd_ne (fun z => by rw [z, hD] at e; cases e)]; exact e
theorem TH.take {H : Hp} {as : List Addr} {fs : List (Int × Int)} (h : TH H as fs) (k : Nat) : TH H (as.take k) (fs.take k) := by
  refine ⟨by simp [h.len], fun i a f h1 h2 => ?_⟩
  rw [List.getElem?_take] at h1 h2
  split at h1
  · rename_i z
    rw [if_pos z] at h2
    exact h.get i a f h1 h2
  · cases h1
theorem part_is {x y b : Int} (hy : 1 ≤ y) (hg : Nat.gcd x.natAbs y.natAbs = 1) (hb : b ≠ 0) {s : Int} (hs : s = if b < 0 then -((Nat.gcd x.natAbs b.natAbs : Nat) : Int) else ((Nat.gcd x.natAbs b.natAbs : Nat) : Int)) :
    s ≠ 0 ∧ s.natAbs ≤ b.natAbs ∧ (b.fdiv s).natAbs ≤ b.natAbs ∧ Frc (x.fdiv s, y * b.fdiv s) ∧ x.fdiv s * (y * b) = x * (y * b.fdiv s) := by
  obtain ⟨s0, sa, hx, hb', b1, cg⟩ := gcd_split hb hs
  generalize x.fdiv s = x' at hx cg
  generalize b.fdiv s = b' at hb' b1 cg
  have eb : b.natAbs = s.natAbs * b'.natAbs := by rw [← Int.natAbs_mul, ← hb']
  refine ⟨s0, by rw [eb]; exact Nat.le_mul_of_pos_right _ (by omega), by rw [eb]; exact Nat.le_mul_of_pos_left _ (by omega), ⟨?_, ?_⟩, ?_⟩
  · have := Int.mul_le_mul hy b1 (by omega) (by omega)
    show 1 ≤ y * b'
    omega
  · show Nat.gcd x'.natAbs (y * b').natAbs = 1
    rw [Int.natAbs_mul]
    have ex : x.natAbs = s.natAbs * x'.natAbs := by rw [← Int.natAbs_mul, ← hx]
    have h1 : Nat.Coprime x'.natAbs y.natAbs := Nat.Coprime.coprime_dvd_left ⟨s.natAbs, by rw [ex, Nat.mul_comm]⟩ hg
    exact Nat.Coprime.mul_right h1 cg
  · rw [hx, hb']; grind
def spPart (K : PySem.W.Frag) : Sp := fun vs H Q _ => ∃ (p : Addr) (x y b : Int), vs = [.ref p, .int b] ∧ SqT K H p [.int x, .int y] ∧ Frc (x, y) ∧ b ≠ 0 ∧ Bd 3000 b ∧ Bd 200000 y ∧ ∀ u v : Int, Frc (u, v) → u * (y * b) = x * v → mkT H Q u v
theorem ok_parted {P : Program} {w : World} {K : PySem.W.Frag} {mg : Str → Option Value} {base : Heap} (T : Tx K mg) : FnOk P w K mg base CX0 2 T.a_parted T.fd_parted ["fraction", "number"] (spPart K) := by
  refine T.F_parted.ok sc_parted (fun vs H Q E h => ?_) (fun cdv A outer s H vs Q E hr h => ?_)
  · obtain ⟨p, x, y, b, rfl, _⟩ := h
    rfl
  obtain ⟨p, x, y, b, rfl, hP, hF, b0, bb, bY, q⟩ := h
  have y1 : 1 ≤ y := hF.1
  have hg : Nat.gcd x.natAbs y.natAbs = 1 := hF.2
  refine ⟨_, ((pss_cons (ps_set (i := 2) sc_parted.nd rfl (Or.inl rfl) (pe_call (FnOk.mono (ok_divisor T) (by decide)) hr rfl T.m_divisor T.F_divisor.kp T.b_divisor .nil pass0 (pa_cons (pe_ix ix_tup (pv 0) pe_int (fun _ _ => rfl)) (pa_cons (pv 1) pa_nil))))
    (pss_mid (ps_if (pt_cmpR op_lt (pv 1) pe_int (nomark _)) (pss_one (ps_set (i := 2) sc_parted.nd rfl (Or.inl rfl) (pe_un un_neg (pv 2)))) pss_nil)
    (pss_one (ps_ret (pe_tup (pa_cons (pe_op op_fdivB (pe_ix ix_tup (pv 0) pe_int (fun _ _ => rfl)) (pv 2)) (pa_cons (pe_op op_mulZ (pe_ix ix_tup (pv 0) pe_int (fun _ _ => rfl)) (pe_op op_fdivB (pv 1) (pv 2))) pa_nil)))))))), ?_⟩
  k_units
  refine ⟨_, hP, _, rfl, x, b, rfl, Nat.lt_of_lt_of_le bb (Nat.pow_le_pow_right (by decide) (by decide)), ?_⟩
  obtain ⟨sh, hsh⟩ : ∃ sh : Int, sh = if b < 0 then -((Nat.gcd x.natAbs b.natAbs : Nat) : Int) else ((Nat.gcd x.natAbs b.natAbs : Nat) : Int) := ⟨_, rfl⟩
  obtain ⟨M, hM⟩ : ∃ M : L2.St → Hp → Prop, ∀ σ Hx, M σ Hx ↔ σ = [some (V.ref p), some (V.int b), some (V.int sh)] ∧ Hx = H := ⟨_, fun _ _ => Iff.rfl⟩
  refine mid_of M ?_ ?_
  · k_units
    exact ite2 (fun h => (hM _ _).mpr ⟨by rw [hsh, if_pos h], rfl⟩) (fun h => (hM _ _).mpr ⟨by rw [hsh, if_neg h], rfl⟩)
  intro σ Hx hm
  obtain ⟨rfl, rfl⟩ := (hM _ _).mp hm
  obtain ⟨s0, sb, sq, F, e⟩ := part_is y1 hg b0 hsh
  have big : sh.natAbs < 2 ^ 9000 := Nat.lt_of_le_of_lt sb (Nat.lt_of_lt_of_le bb (Nat.pow_le_pow_right (by decide) (by decide)))
  have bq : Bd 3000 (b.fdiv sh) := Nat.lt_of_le_of_lt sq bb
  k_units
  refine ⟨_, hP, _, rfl, x, rfl, s0, big, _, hP, _, rfl, s0, big, y, rfl, bY.fits bq (by decide), by decide, fun r nr => ?_⟩
  exact q _ _ F e r nr
def spNext (K : PySem.W.Frag) : Sp := fun vs H Q _ => ∃ (R Vp : Addr) (as bs : List Addr) (ps : List (List Int)) (fs : List (Int × Int)), vs = [.ref R, .ref Vp] ∧ SqL K H R (as.map V.ref) ∧ LL K H as ps ∧ SqL K H Vp (bs.map V.ref) ∧ TL K H bs fs ∧ IsRule ps ∧ ps.length ≤ 6 ∧ ps.length ≤ fs.length + 1 ∧ fs.length ≤ 480 ∧ (∀ p ∈ ps, p.length ≤ 64 ∧ ∀ x ∈ p, Bd 1300 x) ∧ Good fs ∧
  val ((fs.length + 1 - ps.length : Nat) : Int) (ps.getLastD []) ≠ 0 ∧ ∀ r H', Same H H' → H' r = some (.tup [.int (nextF ps fs).1, .int (nextF ps fs).2]) → Q (.ref r) H'
theorem ok_next_value {P : Program} {w : World} {K : PySem.W.Frag} {mg : Str → Option Value} {base : Heap} (T : Tx K mg) : FnOk P w K mg base CX0 6 T.a_next_value T.fd_next_value ["rule", "values"] (spNext K) := by
  refine T.F_next_value.ok sc_next_value (fun vs H Q E h => ?_) (fun cdv A outer s H vs Q E hr h => ?_)
  · obtain ⟨R, Vp, as, bs, ps, fs, rfl, _⟩ := h
    rfl
  obtain ⟨R, Vp, as, bs, ps, fs, rfl, hR, hL, hV, hT, hI, l6, lf, l4, hp, hG, hv, q⟩ := h
  refine ⟨_, ((pss_cons (ps_set (i := 2) sc_next_value.nd rfl (Or.inl rfl) (pe_op op_sub (pe_callB call_len_seq rfl T.z_len bt_len (pa_cons (pv 1) pa_nil)) (pe_call (FnOk.mono (ok_order_of T) (by decide)) hr rfl T.m_order_of T.F_order_of.kp T.b_order_of .nil passF (pa_cons (pv 0) pa_nil))))
    (pss_one (ps_ret (pe_call (FnOk.mono (ok_parted T) (by decide)) hr rfl T.m_parted T.F_parted.kp T.b_parted .nil pass0 (pa_cons (pe_call (FnOk.mono (ok_rule_sum T) (by decide)) hr rfl T.m_rule_sum T.F_rule_sum.kp T.b_rule_sum .nil pass0 (pa_cons (pv 0) (pa_cons (pv 1) (pa_cons (pv 2) pa_nil)))) (pa_cons (pe_un un_neg (pe_call (FnOk.mono (ok_poly_value T) (by decide)) hr rfl T.m_poly_value T.F_poly_value.kp T.b_poly_value .nil pass0 (pa_cons (pe_ix ix_list (pv 0) (pe_un un_neg pe_int) (fun _ _ => rfl)) (pa_cons (pv 2) pa_nil)))) pa_nil))))))), ?_⟩
  k_units
  have lp := List.length_pos_iff.mpr hI.1
  obtain ⟨n, hn⟩ : ∃ n, fs.length + 1 - ps.length = n := ⟨_, rfl⟩
  rw [hn] at hv
  have hn' : n + ps.length = fs.length + 1 := by omega
  refine ⟨_, .inl hV, R, as, ps, rfl, hR, hL, by omega, .inl ⟨hI, _, rfl, ?_⟩⟩
  rw [List.length_map, hT.len, show (fs.length : Int) - ((ps.length : Int) - 1) = (n : Int) by omega]
  have ed : (fs.drop n).take ps.length = fs.drop n := List.take_of_length_le (by rw [List.length_drop]; omega)
  refine ⟨R, Vp, as, bs, ps, fs, n, rfl, hR, hL, hV, hT, l6, by omega, by omega, hp, hG, fun x y F e r H1 s1 hs => ?_⟩
  rw [ed] at e
  obtain ⟨a', p', at1, _, hp2, hpS⟩ := (hL.same s1).lastAt hI.1
  have el : ps.getLastD [] = p' := by rw [List.getLastD_eq_getLast?, hp2]; rfl
  have pok := hp p' (List.mem_of_getLast? hp2)
  rw [el] at hv
  have bn : Bd 9 (n : Int) := Bd.of_lt (m := 501) (by omega) (by decide)
  have bv : Bd 2000 (val (n : Int) p') := (val_bd bn p' pok.2).mono (by omega)
  obtain ⟨E1, e1, e2, e3⟩ := hG.2
  have yE : y ∣ E1 := by
    have := e E1 fun f hf => e3 f (List.mem_of_mem_drop hf)
    exact cop_dvd (b := x) ⟨Wm E1 ((ps.map (val (n : Int))).zip (fs.drop n)), this⟩ (by rw [Int.gcd_comm]; exact F.2)
  have bY : Bd 2900 y := Nat.lt_of_le_of_lt (Nat.le_of_dvd (by omega) (Int.natAbs_dvd_natAbs.mpr yE)) e2
  refine ⟨_, s1.seq hR, _, at1, a', p', n, 1300, 9, rfl, hpS, pok.1, pok.2, bn, by decide, _, rfl, ?_⟩
  refine ⟨r, x, y, -(val (n : Int) p'), rfl, hs, F, by omega, bv.neg.mono (by decide), bY.mono (by decide), fun u v Fuv e4 r2 nr2 => ?_⟩
  have M1 := lcm_pos (fs.drop n) fun f hf => (hG.1 f (List.mem_of_mem_drop hf)).1.1
  have key : (u, v) = nextF ps fs := by
    have en : fs.length - (ps.length - 1) = n := by omega
    have ee : nextF ps fs = lowF (Wm (lcmL (fs.drop n)) (ws ps fs n)) (-(lcmL (fs.drop n) * val (n : Int) p')) := by unfold nextF; rw [en, el]
    rw [ee]
    have b0 : -(lcmL (fs.drop n) * val (n : Int) p') ≠ 0 := by have := Int.mul_ne_zero (show lcmL (fs.drop n) ≠ 0 by omega) hv; omega
    refine low_uniq Fuv b0 ?_
    have e5 : x * lcmL (fs.drop n) = y * Wm (lcmL (fs.drop n)) (ws ps fs n) := e _ (lcm_dvd _)
    generalize Wm (lcmL (fs.drop n)) (ws ps fs n) = W at e5
    generalize lcmL (fs.drop n) = M at e5
    generalize val (n : Int) p' = v0 at e4
    show u * -(M * v0) = W * v
    have y0 : y ≠ 0 := by have := F.1; simp only at this; omega
    have : y * (u * -(M * v0)) = y * (W * v) := by
      have a1 : y * (u * -(M * v0)) = u * (y * -v0) * M := by grind
      rw [a1, e4]
      have a2 : x * v * M = x * M * v := by grind
      rw [a2, e5]; grind
    exact Int.eq_of_mul_eq_mul_left y0 this
  rw [← key] at q
  exact q r2 _ (s1.trans (same_upd nr2 _)) upd_same
structure Cr (ps : List (List Int)) (fs : List (Int × Int)) (m : Nat) : Prop where
  I : IsRule ps
  l6 : ps.length ≤ 6
  b : ∀ p ∈ ps, p.length ≤ 64 ∧ ∀ x ∈ p, Bd 200 x
  m60 : m ≤ 60
  c1 : clr m (ps.getLastD []) = true
  c2 : ∀ j : Nat, j < m → clr j (ps.getLastD []) = false
  need : ps.length + m ≤ fs.length + 1
  g : Good fs
  kp : ∀ n : Nat, n + ps.length ≤ fs.length → Kp ps fs n
def spCheck (K : PySem.W.Frag) : Sp := fun vs H Q _ => ∃ (R Vp : Addr) (as bs : List Addr) (ps : List (List Int)) (fs : List (Int × Int)) (m : Nat), vs = [.ref R, .ref Vp] ∧ SqL K H R (as.map V.ref) ∧ LL K H as ps ∧ SqL K H Vp (bs.map V.ref) ∧ TL K H bs fs ∧ fs.length ≤ 480 ∧ Cr ps fs m ∧ ∀ H', Same H H' → Q .non H'
theorem ok_check_first {P : Program} {w : World} {K : PySem.W.Frag} {mg : Str → Option Value} {base : Heap} (T : Tx K mg) : FnOk P w K mg base CX0 7 T.a_check_first T.fd_check_first ["rule", "first"] (spCheck K) := by
  refine T.F_check_first.ok sc_check_first (fun vs H Q E h => ?_) (fun cdv A outer s H vs Q E hr h => ?_)
  · obtain ⟨R, Vp, as, bs, ps, fs, m, rfl, _⟩ := h
    rfl
  obtain ⟨R, Vp, as, bs, ps, fs, m, rfl, hR, hL, hV, hT, l4, C, q⟩ := h
  refine ⟨_, ((pss_cons (ps_set (i := 2) sc_check_first.nd rfl (Or.inl rfl) (pe_call (FnOk.mono (ok_need_of T) (by decide)) hr rfl T.m_need_of T.F_need_of.kp T.b_need_of .nil passF (pa_cons (pv 0) pa_nil)))
    (pss_cons (ps_if (pt_cmpR op_lt (pe_callB call_len_seq rfl T.z_len bt_len (pa_cons (pv 1) pa_nil)) (pv 2) (nomark _)) pss_never pss_nil)
    (pss_one (ps_for PassesOwn.never rfl (pi_range1 rfl T.z_range (pa_cons (pe_op op_sub (pe_callB call_len_seq rfl T.z_len bt_len (pa_cons (pv 1) pa_nil)) (pe_call (FnOk.mono (ok_order_of T) (by decide)) hr rfl T.m_order_of T.F_order_of.kp T.b_order_of .nil passF (pa_cons (pv 0) pa_nil))) pa_nil)) (pg_name (i := 3) sc_check_first.nd rfl (Or.inl rfl)) (pss_one (ps_if (pt_not (pt_val (pe_call (FnOk.mono (ok_keeps T) (by decide)) hr rfl T.m_keeps T.F_keeps.kp T.b_keeps .nil passF (pa_cons (pv 0) (pa_cons (pv 1) (pa_cons (pv 3) pa_nil)))))) pss_never pss_nil))))))), ?_⟩
  k_units
  have lp := List.length_pos_iff.mpr C.I.1
  have hlast : ps.getLast? = some (ps.getLastD []) := by rw [List.getLastD_eq_getLast?, List.getLast?_eq_some_getLast C.I.1]; rfl
  have bl := C.b _ (List.mem_of_getLast? hlast)
  have l6 := C.l6
  have nd := C.need
  refine ⟨R, as, ps, rfl, hR, hL, by omega, .inr ⟨C.I, _, hlast, bl.1, bl.2, .inl ⟨m, C.m60, C.c1, C.c2, fun H1 s1 => ⟨_, .inl (s1.seq hV), _, rfl, ?_⟩⟩⟩⟩
  rw [List.length_map, hT.len, if_neg (by omega)]
  refine ⟨_, .inl (s1.seq hV), R, as, ps, rfl, s1.seq hR, hL.same s1, by omega, .inl ⟨C.I, _, rfl, ?_⟩⟩
  rw [List.length_map, hT.len]
  obtain ⟨k, hk⟩ : ∃ k : Nat, (fs.length : Int) - ((ps.length : Int) - 1) = (k : Int) := ⟨fs.length + 1 - ps.length, by omega⟩
  rw [hk, Int.toNat_natCast]
  refine ⟨by omega, by omega, ?_⟩
  obtain ⟨Pv, hPv⟩ : ∃ Pv : Nat → L2.St → Hp → Prop, ∀ i σ H', Pv i σ H' ↔ ∃ (r2 r3 : Option V), σ = [some (V.ref R), some (V.ref Vp), r2, r3] ∧ Same H H' := ⟨_, fun _ _ _ => Iff.rfl⟩
  refine lp_range Pv ((hPv _ _ _).mpr ⟨_, _, rfl, s1⟩) ?_ ?_
  · intro i σ H' hi hp
    obtain ⟨r2, r3, rfl, sP⟩ := (hPv _ _ _).mp hp
    have e1 : (0 : Int) + (i : Int) = (i : Int) := Int.zero_add _
    (iterate 3 (k_units; (try simp only [e1])); k_units)
    have hb : ∀ p ∈ ps, p.length ≤ 64 ∧ ∀ x ∈ p, Bd 1300 x := fun p hp => ⟨(C.b p hp).1, fun x hx => ((C.b p hp).2 x hx).mono (by decide)⟩
    refine ⟨R, Vp, as, bs, ps, fs, i, rfl, sP.seq hR, hL.same sP, sP.seq hV, hT.same sP, by omega, by omega, hb, C.g, .inr ⟨C.I, .inr ⟨i, rfl, by omega, true, ⟨fun _ => C.kp i (by omega), fun _ => rfl⟩, fun H2 s2 => ⟨true, rfl, ?_⟩⟩⟩⟩
    rw [if_neg (by decide)]
    exact (hPv _ _ _).mpr ⟨_, _, rfl, sP.trans s2⟩
  · intro σ H' hp
    obtain ⟨r2, r3, rfl, sP⟩ := (hPv _ _ _).mp hp
    exact q _ sP
structure LH (H : Hp) (as : List Addr) (ps : List (List Int)) : Prop where
  len : as.length = ps.length
  get : ∀ (i : Nat) (a : Addr) (p : List Int), as[i]? = some a → ps[i]? = some p → H a = some (.lst (p.map V.int))
theorem LH.ll {K : PySem.W.Frag} {H : Hp} {as : List Addr} {ps : List (List Int)} (h : LH H as ps) : LL K H as ps := ⟨h.len, fun i a p h1 h2 => SqL.of (h.get i a p h1 h2)⟩
theorem LH.same {H H' : Hp} {as : List Addr} {ps : List (List Int)} (h : LH H as ps) (s : Same H H') : LH H' as ps := ⟨h.len, fun i a p h1 h2 => s _ _ (h.get i a p h1 h2)⟩
theorem LH.nil (H : Hp) : LH H [] [] := ⟨rfl, fun i a p h1 _ => by simp at h1⟩
theorem LH.snoc {H : Hp} {as : List Addr} {ps : List (List Int)} {a : Addr} {p : List Int} (h : LH H as ps) (e : H a = some (.lst (p.map V.int))) : LH H (as ++ [a]) (ps ++ [p]) := by
  refine ⟨by simp [h.len], fun i b r h1 h2 => ?_⟩
  by_cases z : i < as.length
  · rw [List.getElem?_append_left z] at h1
    rw [List.getElem?_append_left (by rw [← h.len]; exact z)] at h2
    exact h.get i b r h1 h2
  · rw [List.getElem?_append_right (by omega)] at h1
    rw [List.getElem?_append_right (by rw [← h.len]; omega), ← h.len] at h2
    have z2 : i - as.length = 0 := by
      rcases Nat.eq_zero_or_pos (i - as.length) with y | y
      · exact y
      · rw [List.getElem?_eq_none (by simp; omega)] at h1; cases h1
    rw [z2] at h1 h2
    simp at h1 h2
    rw [← h1, ← h2]; exact e
theorem LH.upd {H : Hp} {as : List Addr} {ps : List (List Int)} {b : Addr} {o : HO} (h : LH H as ps) (n : b ∉ as) : LH (L2.upd H b o) as ps := ⟨h.len, fun i a p h1 h2 => by
  rw [upd_ne (fun z => n (by rw [← z]; exact List.mem_of_getElem? h1))]; exact h.get i a p h1 h2⟩
theorem LH.mem {H : Hp} {as : List Addr} {ps : List (List Int)} (h : LH H as ps) {a : Addr} (ha : a ∈ as) : ∃ p : List Int, H a = some (.lst (p.map V.int)) := by
  obtain ⟨i, hi, e⟩ := List.mem_iff_getElem.mp ha
  have hp : i < ps.length := by rw [← h.len]; exact hi
  exact ⟨ps[i], h.get i a ps[i] (by rw [← e]; exact List.getElem?_eq_getElem hi) (List.getElem?_eq_getElem hp)⟩
theorem LH.notin {H : Hp} {as : List Addr} {ps : List (List Int)} (h : LH H as ps) {a : Addr} (ha : H a = none) : a ∉ as := fun z => by
  obtain ⟨p, e⟩ := h.mem z
  rw [ha] at e; cases e
def newLL (H : Hp) (Q : VK) (ds : List (List Int)) : Prop := ∀ (D : Addr) (bs : List Addr) H', Same H H' → H D = none → H' D = some (.lst (bs.map V.ref)) → LH H' bs ds → (∀ b ∈ bs, H b = none) → D ∉ bs → bs.Nodup → Q (.ref D) H'
theorem cl_ll {K : PySem.W.Frag} {a : Addr} {as : List Addr} {ps ds : List (List Int)} {fv : List (Nat × Str)} {te : TE} {Q : VK} {σ : L2.St} {H1 : Hp} {D : Addr} (nD : H1 D = none) (hA : SqL K H1 a (as.map V.ref)) (hL : LL K H1 as ps) (hd : ds.length = ps.length) (hl : ps.length ≤ 900)
    (hs : ∀ (i : Nat) (b : Addr) (p d : List Int) (Hx : Hp) (R : VK), ps[i]? = some p → ds[i]? = some d → Same H1 Hx → SqL K Hx b (p.map V.int) → newL Hx R (d.map V.int) → te (bst fv σ (some (V.ref b))) Hx R) (he : newLL H1 Q ds) : CLoop (Itl K a) fv te Q σ H1 D := by
  obtain ⟨Pc, hPc⟩ : ∃ Pc : Nat → Hp → Prop, ∀ j Hx, Pc j Hx ↔ ∃ bs : List Addr, Hx D = some (.lst (bs.map V.ref)) ∧ LH Hx bs (ds.take j) ∧ D ∉ bs ∧ bs.Nodup ∧ (∀ b ∈ bs, H1 b = none) ∧ Same H1 Hx := ⟨_, fun _ _ => Iff.rfl⟩
  refine cl_list (xs := as.map V.ref) Pc ((hPc _ _).mpr ⟨[], upd_same, LH.nil _, by simp, List.nodup_nil, by simp, same_upd nD _⟩) (fun i Hx _ z => by obtain ⟨_, _, _, _, _, _, z⟩ := (hPc i Hx).mp z; exact z.seq hA) ?_ ?_
  · intro j v Hx hv hc
    obtain ⟨bs, k1, k2, k3, k4, k5, k6⟩ := (hPc _ _).mp hc
    obtain ⟨b, p, rfl, hb, hp, hB⟩ := hL.nth hv
    have hj : j < ps.length := (List.getElem?_eq_some_iff.mp hp).1
    have hdj : ds[j]? = some ds[j] := List.getElem?_eq_getElem (by omega)
    refine hs j b p _ Hx _ hp hdj k6 (k6.seq hB) fun F H2 s2 nF eF => ?_
    have lk := k2.len
    rw [List.length_take] at lk
    have nFD : F ≠ D := fun z => by rw [z, k1] at nF; cases nF
    have nFb : F ∉ bs := k2.notin nF
    have m1 : D ∉ bs ++ [F] := fun z => by
      rcases List.mem_append.mp z with z | z
      · exact k3 z
      · exact nFD (List.mem_singleton.mp z).symm
    refine ⟨_, s2 _ _ k1, by rw [List.length_map]; exact small1000 (by omega), (hPc _ _).mpr ⟨bs ++ [F], by rw [upd_same]; simp, ?_, m1, ?_, ?_, (k6.trans s2).more nD⟩⟩
    · have e : ds.take (j + 1) = ds.take j ++ [ds[j]] := by rw [List.take_succ, hdj]; rfl
      rw [e]
      exact ((k2.same s2).snoc eF).upd m1
    · exact List.nodup_append.mpr ⟨k4, by simp, fun x hx y hy z => nFb (by rw [List.mem_singleton.mp hy] at z; rw [← z]; exact hx)⟩
    · intro x hx
      rcases List.mem_append.mp hx with z | z
      · exact k5 x z
      · rw [List.mem_singleton.mp z]; exact k6.free nF
  · intro H' hc
    obtain ⟨bs, k1, k2, k3, k4, k5, k6⟩ := (hPc _ _).mp hc
    rw [List.length_map, hL.len, ← hd, List.take_length] at k2
    exact he D bs H' k6 nD k1 k2 k5 k3 k4
theorem cl_rngP {n : Nat} {Pd : Int → Prop} {fv : List (Nat × Str)} {te : TE} {Q : VK} {σ : L2.St} {H1 : Hp} {D : Addr} (nD : H1 D = none) (hn : n ≤ 900)
    (hs : ∀ i, i < n → ∀ Hx R, Same H1 Hx → (∀ v, Pd v → R (.int v) Hx) → te (bst fv σ (some (V.int (0 + (i : Int))))) Hx R) (he : ∀ ys : List Int, ys.length = n → (∀ y ∈ ys, Pd y) → newL H1 Q (ys.map V.int)) : CLoop (Itr 0 n) fv te Q σ H1 D := by
  obtain ⟨Pc, hPc⟩ : ∃ Pc : Nat → Hp → Prop, ∀ i H', Pc i H' ↔ ∃ ys : List Int, ys.length = i ∧ (∀ y ∈ ys, Pd y) ∧ H' D = some (.lst (ys.map V.int)) ∧ Same H1 H' := ⟨_, fun _ _ => Iff.rfl⟩
  refine cl_range Pc ((hPc _ _).mpr ⟨[], rfl, by simp, upd_same, same_upd nD _⟩) ?_ ?_
  · intro i H' hi hc
    obtain ⟨ys, hy, hb, h1, h2⟩ := (hPc _ _).mp hc
    refine hs i hi H' _ h2 fun v hv => ⟨_, h1, by rw [List.length_map]; exact small1000 (by omega), (hPc _ _).mpr ⟨ys ++ [v], by simp [hy], fun y hy' => ?_, by rw [upd_same]; simp, h2.more nD⟩⟩
    rcases List.mem_append.mp hy' with z | z
    · exact hb y z
    · rw [List.mem_singleton.mp z]; exact hv
  · intro H' hc
    obtain ⟨ys, hy, hb, h1, h2⟩ := (hPc _ _).mp hc
    exact he ys hy hb D H' h2 nD h1
def rowF (R L : Addr) : List (Str × V) := [(Str.ofString "rule", .ref R), (Str.ofString "known", .ref L)]
theorem SqL.updI {K : PySem.W.Frag} {H : Hp} {a x C dx : Addr} {xs : List V} {fs : List (Str × V)} {o : HO} (h : SqL K H a xs) (e : H x = some (.ins C dx fs)) : SqL K (L2.upd H x o) a xs := by
  rcases h with (h | ⟨u, h⟩) | h
  · exact .inl (.inl (by rw [upd_ne (ne_of h e (fun z => nomatch z))]; exact h))
  · exact .inl (.inr ⟨u, by rw [upd_ne (ne_of h e (fun z => nomatch z))]; exact h⟩)
  · exact .inr h
theorem LH.updI {H : Hp} {as : List Addr} {ps : List (List Int)} {x C dx : Addr} {fs : List (Str × V)} {o : HO} (h : LH H as ps) (e : H x = some (.ins C dx fs)) : LH (L2.upd H x o) as ps := ⟨h.len, fun i a p h1 h2 => by
  have z := h.get i a p h1 h2
  rw [upd_ne (ne_of z e (fun z => nomatch z))]; exact z⟩
theorem TH.updI {H : Hp} {as : List Addr} {gs : List (Int × Int)} {x C dx : Addr} {fs : List (Str × V)} {o : HO} (h : TH H as gs) (e : H x = some (.ins C dx fs)) : TH (L2.upd H x o) as gs := ⟨h.len, fun i a p h1 h2 => by
  have z := h.get i a p h1 h2
  rw [upd_ne (ne_of z e (fun z => nomatch z))]; exact z⟩
def spInit (K : PySem.W.Frag) (C : Addr) : Sp := fun vs H Q _ => ∃ (x dx R Vp : Addr) (as bs : List Addr) (ps : List (List Int)) (fs : List (Int × Int)) (m : Nat), vs = [.ref x, .ref R, .ref Vp] ∧ H x = some (.ins C dx []) ∧ SqL K H R (as.map V.ref) ∧ LL K H as ps ∧ SqL K H Vp (bs.map V.ref) ∧ TH H bs fs ∧ fs.length ≤ 480 ∧ Cr ps fs m ∧
  ∀ (R' L : Addr) (as' : List Addr) (H' : Hp), (∀ b o, b ≠ x → H b = some o → H' b = some o) → H R' = none → H L = none → R' ≠ L → (∀ b ∈ as', H b = none) → R' ∉ as' → L ∉ as' → as'.Nodup → H' x = some (.ins C dx (rowF R' L)) → H' R' = some (.lst (as'.map V.ref)) → LH H' as' ps → H' L = some (.lst (bs.map V.ref)) → Q .non H'
theorem ok_Row___init__ {P : Program} {w : World} {K : PySem.W.Frag} {mg : Str → Option Value} {base : Heap} (T : Tx K mg) : FnOk P w K mg base CX0 8 T.a_Row___init__ T.fd_Row___init__ ["self", "rule", "first"] (spInit K T.c_Row) := by
  refine T.F_Row___init__.ok sc_Row___init__ (fun vs H Q E h => ?_) (fun cdv A outer s H vs Q E hr h => ?_)
  · obtain ⟨x, dx, R, Vp, as, bs, ps, fs, m, rfl, _⟩ := h
    rfl
  obtain ⟨x, dx, R, Vp, as, bs, ps, fs, m, rfl, hx, hR, hL, hV, hT, l4, C, q⟩ := h
  refine ⟨_, ((pss_cons (ps_fld (pv 0) (pe_lcomp rfl (blkok rfl sub_nil fv_nil) (pi_list (pv 1)) (fun _ _ _ _ => (pe_callTy (call_list_ofK (K := K) rfl) rfl T.z_list bt_list (pa_cons (pv 0) pa_nil)))) rfl)
    (pss_cons (ps_fld (pv 0) (pe_callTy call_list_of rfl T.z_list bt_list (pa_cons (pv 2) pa_nil)) rfl)
    (pss_one (ps_expr (pe_call (FnOk.mono (ok_check_first T) (by decide)) hr rfl T.m_check_first T.F_check_first.kp T.b_check_first .nil pass0 (pa_cons (pe_fld (pv 0) rfl) (pa_cons (pe_fld (pv 0) rfl) pa_nil)))))))), ?_⟩
  dsimp only [a_seq]
  k_typeOf
  have l6 := C.l6
  refine ⟨⟨_, hR⟩, fun D nD => cl_ll (ps := ps) (ds := ps) nD hR hL rfl (by omega) (fun i b p d Hx R' hp hd sx hb hR' => ?_) (fun F cs H1 s1 nF eF lc nc nin nd => ?_)⟩
  · have e : d = p := by rw [hp] at hd; exact (Option.some.inj hd).symm
    subst e
    (iterate 3 (k_units; (try simp only [bst])); k_units)
    exact ⟨_, .inl hb, fun l hl => hR' l _ (same_upd hl _) hl upd_same⟩
  have ex1 := s1 _ _ hx
  have nFx : F ≠ x := fun z => by rw [z, hx] at nF; cases nF
  refine ⟨T.c_Row, dx, [], ex1, T.cl_Row, T.na_Row_rule, by decide, ?_⟩
  have ex2 : upd H1 x (.ins T.c_Row dx (putF "rule" (.ref F) [])) x = some (.ins T.c_Row dx [("rule", .ref F)]) := upd_same
  have eF2 : upd H1 x (.ins T.c_Row dx (putF "rule" (.ref F) [])) F = some (.lst (cs.map V.ref)) := by rw [upd_ne nFx]; exact eF
  have lc2 := lc.updI (o := .ins T.c_Row dx (putF "rule" (.ref F) [])) ex1
  have hV2 := SqL.updI (o := .ins T.c_Row dx (putF "rule" (.ref F) [])) (s1.seq hV) ex1
  have hT2 := (hT.same s1).updI (o := .ins T.c_Row dx (putF "rule" (.ref F) [])) ex1
  have k2 : ∀ b o, b ≠ x → H b = some o → upd H1 x (.ins T.c_Row dx (putF "rule" (.ref F) [])) b = some o := fun b o hb e => by rw [upd_ne hb]; exact s1 _ _ e
  have n2 : ∀ b, upd H1 x (.ins T.c_Row dx (putF "rule" (.ref F) [])) b = none → H b = none := fun b e => by
    cases z : H b with
    | none => rfl
    | some o =>
      by_cases hb : b = x
      · rw [hb, upd_same] at e; cases e
      · rw [k2 b o hb z] at e; cases e
  generalize upd H1 x (.ins T.c_Row dx (putF "rule" (.ref F) [])) = G2 at ex2 eF2 lc2 hV2 hT2 k2 n2 ⊢
  dsimp only [a_seq]
  k_typeOf
  refine ⟨_, .inl hV2, fun L nL => ?_⟩
  have uL := same_upd nL (.lst (bs.map V.ref))
  have ex3 := uL _ _ ex2
  refine ⟨T.c_Row, dx, _, ex3, T.cl_Row, T.na_Row_known, by show 1 < 1000; decide, ?_⟩
  have nL0 := n2 L nL
  have nLx : L ≠ x := fun z => by rw [z, ex2] at nL; cases nL
  have nFL : F ≠ L := fun z => by rw [← z, eF2] at nL; cases nL
  have pf : putF "known" (.ref L) [("rule", V.ref F)] = rowF F L := rfl
  rw [pf]
  have ex4 : upd (upd G2 L (.lst (bs.map V.ref))) x (.ins T.c_Row dx (rowF F L)) x = some (.ins T.c_Row dx (rowF F L)) := upd_same
  have eF4 : upd (upd G2 L (.lst (bs.map V.ref))) x (.ins T.c_Row dx (rowF F L)) F = some (.lst (cs.map V.ref)) := by rw [upd_ne nFx]; exact uL _ _ eF2
  have eL4 : upd (upd G2 L (.lst (bs.map V.ref))) x (.ins T.c_Row dx (rowF F L)) L = some (.lst (bs.map V.ref)) := by rw [upd_ne nLx]; exact upd_same
  have lc4 := (lc2.same uL).updI (o := .ins T.c_Row dx (rowF F L)) ex3
  have hT4 := (hT2.same uL).updI (o := .ins T.c_Row dx (rowF F L)) ex3
  have k4 : ∀ b o, b ≠ x → H b = some o → upd (upd G2 L (.lst (bs.map V.ref))) x (.ins T.c_Row dx (rowF F L)) b = some o := fun b o hb e => by rw [upd_ne hb]; exact uL _ _ (k2 b o hb e)
  generalize upd (upd G2 L (.lst (bs.map V.ref))) x (.ins T.c_Row dx (rowF F L)) = G4 at ex4 eF4 eL4 lc4 hT4 k4 ⊢
  refine ⟨T.c_Row, dx, _, ex4, T.cl_Row, T.na_Row_rule, _, rfl, T.c_Row, dx, _, ex4, T.cl_Row, T.na_Row_known, _, rfl, F, L, cs, bs, ps, fs, m, rfl, SqL.of eF4, lc4.ll, SqL.of eL4, hT4.tl, l4, C, fun H5 s5 => ?_⟩
  exact q F L cs H5 (fun b o hb e => s5 _ _ (k4 b o hb e)) nF nL0 nFL nc nin (lc2.notin nL) nd (s5 _ _ ex4) (s5 _ _ eF4) (lc4.same s5) (s5 _ _ eL4)
def spAt (K : PySem.W.Frag) (C D : Addr) : Sp := fun vs H Q E => ∃ (x dx R L : Addr) (n : Int) (as cs : List Addr) (ps : List (List Int)) (fs : List (Int × Int)) (m k : Nat), vs = [.ref x, .int n] ∧ H x = some (.ins C dx (rowF R L)) ∧ H R = some (.lst (as.map V.ref)) ∧ LH H as ps ∧ R ≠ L ∧ L ∉ as ∧ H L = some (.lst (cs.map V.ref)) ∧ TH H cs (carryF ps fs k) ∧ fs.length ≤ 480 ∧ Cr ps fs m ∧
  (((n < 0 ∨ 400 < n) ∧ E (.ref D) none H) ∨
   (∃ j : Nat, n = (j : Int) ∧ j ≤ 400 ∧ (∀ i, fs.length + i ≤ j + 1 → Good (carryF ps fs i)) ∧ ∀ (r : Addr) (cs' : List Addr) (k' : Nat) (f : Int × Int) (H' : Hp), k ≤ k' → fs.length + k' ≤ max (fs.length + k) (j + 1) → (∀ b o, b ≠ L → H b = some o → H' b = some o) → H' L = some (.lst (cs'.map V.ref)) → TH H' cs' (carryF ps fs k') → (carryF ps fs k')[j]? = some f → cs'[j]? = some r → H' r = some (.tup [.int f.1, .int f.2]) → Q (.ref r) H'))
theorem ok_Row_at {P : Program} {w : World} {K : PySem.W.Frag} {mg : Str → Option Value} {base : Heap} (T : Tx K mg) : FnOk P w K mg base (CXE P w) 7 T.a_Row_at T.fd_Row_at ["self", "n"] (spAt K T.c_Row T.c_NoPlace) := by
  refine T.F_Row_at.okE sc_Row_at (fun vs H Q E h => ?_) (fun cdv A outer s H vs Q E hr h => ?_)
  · obtain ⟨x, dx, R, L, n, as, cs, ps, fs, m, k, rfl, _⟩ := h
    rfl
  obtain ⟨x, dx, R, L, n, as, cs, ps, fs, m, k, rfl, hx, hR, hL, nRL, nin, hK, hT, l4, C, hq⟩ := h
  refine ⟨_, ((pss_cons (ps_if (PT.nox (PW.pt (pw_or (pt_cmpR op_lt (pv 1) pe_int (nomark _)) (pw_or1 (pt_cmpR op_gt (pv 1) (pe_glob (v := .int 400) rfl T.g_FARTHEST_PLACE.2 ⟨_, rfl⟩) (nomark _)))))) (pss_one (ps_raise rfl throwE rfl T.mc_NoPlace T.xc_NoPlace (pa_cons (pe_fst (pe_glob (v := .int 400) rfl T.g_FARTHEST_PLACE.2 ⟨_, rfl⟩)) pa_nil))) pss_nil)
    (pss_cons (PS.nox (ps_while PassesOwn.never (pt_cmpR op_le (pe_callB call_len_seq rfl T.z_len bt_len (pa_cons (pe_fld (pv 0) rfl) pa_nil)) (pv 1) (nomark _)) (pss_one (ps_expr (pe_bm PySem.F.plainAttrs_list PySem.F.slot_list_append PySem.F.type_list_append mt_append (pe_fld (pv 0) rfl) (pa_cons (pe_call (FnOk.mono (ok_next_value T) (by decide)) hr rfl T.m_next_value T.F_next_value.kp T.b_next_value .nil pass0 (pa_cons (pe_fld (pv 0) rfl) (pa_cons (pe_fld (pv 0) rfl) pa_nil))) pa_nil))))))
    (pss_one (PS.nox (ps_ret (pe_ix ix_list (pe_fld (pv 0) rfl) (pv 1) (fun _ _ => rfl)))))))), ?_⟩
  dsimp only [a_seq]
  k_typeOf
  have hb : ∀ p ∈ ps, p.length ≤ 64 ∧ ∀ x ∈ p, Bd 1300 x := fun p hp => ⟨(C.b p hp).1, fun x hx => ((C.b p hp).2 x hx).mono (by decide)⟩
  have nd := C.need
  rcases hq with ⟨hn, q⟩ | ⟨j, rfl, j400, hG, q⟩
  · refine ite2 (fun h => ⟨by decide, by decide, by decide, by decide, q⟩) (fun h => ite2 (fun h2 => ⟨by decide, by decide, by decide, by decide, q⟩) (fun h2 => by omega))
  rw [if_neg (by omega), if_neg (by omega)]
  dsimp only [a_seq]
  k_typeOf
  have l1 : (rowF R L).lookup (Str.ofString "rule") = some (V.ref R) := rfl
  have l2 : (rowF R L).lookup (Str.ofString "known") = some (V.ref L) := rfl
  have hxL : x ≠ L := ne_of hx hK (fun z => nomatch z)
  obtain ⟨Pu, hPu⟩ : ∃ Pu : Nat → L2.St → Hp → Prop, ∀ u σ Hx, Pu u σ Hx ↔ ∃ (k2 : Nat) (cs2 : List Addr), σ = [some (V.ref x), some (V.int (j : Int))] ∧ Hx L = some (.lst (cs2.map V.ref)) ∧ TH Hx cs2 (carryF ps fs k2) ∧ k ≤ k2 ∧ fs.length + k2 ≤ max (fs.length + k) (j + 1) ∧ u = j + 1 - (fs.length + k2) ∧ ∀ b o, b ≠ L → H b = some o → Hx b = some o := ⟨_, fun _ _ _ => Iff.rfl⟩
  refine while_of Pu (j + 1 - (fs.length + k)) ((hPu _ _ _).mpr ⟨k, cs, rfl, hK, hT, Nat.le_refl _, by omega, rfl, fun _ _ _ e => e⟩) ?_
  intro u σ Hx hu
  obtain ⟨k2, cs2, rfl, eL, th, hk, hm, rfl, kp⟩ := (hPu _ _ _).mp hu
  have lc := th.len
  rw [carry_len] at lc
  have ex := kp _ _ hxL hx
  have eR := kp _ _ nRL hR
  have lh2 : LH Hx as ps := ⟨hL.len, fun i a p h1 h2 => kp _ _ (fun z => nin (by rw [← z]; exact List.mem_of_getElem? h1)) (hL.get i a p h1 h2)⟩
  have ln := carry_len ps fs k2
  k_units
  refine ⟨T.c_Row, dx, _, ex, T.cl_Row, T.na_Row_known, _, l2, L, rfl, _, .inl (SqL.of eL), ?_⟩
  rw [List.length_map, lc]
  refine ite2 (fun h => ?_) (fun h => ?_)
  · refine ⟨fun σ' H1 => Pu (j + 1 - (fs.length + (k2 + 1))) σ' H1, fun σ' H1 hN => ⟨_, by omega, hN⟩, T.c_Row, dx, _, ex, T.cl_Row, T.na_Row_known, _, l2, a_tyL (SqL.of eL), T.c_Row, dx, _, ex, T.cl_Row, T.na_Row_rule, _, l1, T.c_Row, dx, _, ex, T.cl_Row, T.na_Row_known, _, l2, ?_⟩
    refine ⟨R, L, as, cs2, ps, carryF ps fs k2, rfl, SqL.of eR, lh2.ll, SqL.of eL, th.tl, C.I, C.l6, by rw [ln]; omega, by rw [ln]; omega, hb, hG k2 (by omega), val_clr C.c1 (by rw [ln]; omega), fun r H2 s2 er => ?_⟩
    refine ⟨L, rfl, _, s2 _ _ eL, by rw [List.length_map]; exact small1000 (by omega), (hPu _ _ _).mpr ⟨k2 + 1, cs2 ++ [r], rfl, by rw [upd_same]; simp, ?_, by omega, by omega, by omega, fun b o hb' e => by rw [upd_ne hb']; exact s2 _ _ (kp b o hb' e)⟩⟩
    exact TH.upd (TH.snoc (th.same s2) er) (s2 _ _ eL)
  · refine ⟨T.c_Row, dx, _, ex, T.cl_Row, T.na_Row_known, _, l2, L, rfl, _, SqL.of eL, ?_⟩
    have hj : j < cs2.length := by omega
    have hj2 : j < (carryF ps fs k2).length := by rw [ln]; omega
    exact ⟨V.ref cs2[j], atI_nat (by rw [List.getElem?_map, List.getElem?_eq_getElem hj]; rfl), q cs2[j] cs2 k2 (carryF ps fs k2)[j] Hx hk hm kp eL th (List.getElem?_eq_getElem hj2) (List.getElem?_eq_getElem hj) (th.get j _ _ (List.getElem?_eq_getElem hj) (List.getElem?_eq_getElem hj2))⟩
def spRtold (K : PySem.W.Frag) (C : Addr) : Sp := fun vs H Q _ => ∃ (x dx R L : Addr) (as cs : List Addr) (ps : List (List Int)) (fs : List (Int × Int)) (m k : Nat), vs = [.ref x] ∧ H x = some (.ins C dx (rowF R L)) ∧ H R = some (.lst (as.map V.ref)) ∧ LH H as ps ∧ H L = some (.lst (cs.map V.ref)) ∧ TH H cs (carryF ps fs k) ∧ fs.length ≤ 480 ∧ Cr ps fs m ∧
  ∀ (t A B : Addr) (as' cs' : List Addr) (H' : Hp), Same H H' → H A = none → H B = none → (∀ b ∈ as', H b = none) → A ∉ as' → B ∉ as' → A ≠ B → as'.Nodup → H' A = some (.lst (as'.map V.ref)) → LH H' as' ps → H' B = some (.lst (cs'.map V.ref)) → TH H' cs' ((carryF ps fs k).take (ps.length - 1 + m)) → H' t = some (.tup [.ref A, .ref B]) → Q (.ref t) H'
theorem ok_Row_told {P : Program} {w : World} {K : PySem.W.Frag} {mg : Str → Option Value} {base : Heap} (T : Tx K mg) : FnOk P w K mg base CX0 7 T.a_Row_told T.fd_Row_told ["self"] (spRtold K T.c_Row) := by
  refine T.F_Row_told.ok sc_Row_told (fun vs H Q E h => ?_) (fun cdv A outer s H vs Q E hr h => ?_)
  · obtain ⟨x, dx, R, L, as, cs, ps, fs, m, k, rfl, _⟩ := h
    rfl
  obtain ⟨x, dx, R, L, as, cs, ps, fs, m, k, rfl, hx, hR, hL, hK, hT, l4, C, q⟩ := h
  refine ⟨_, ((pss_one (ps_ret (pe_tup (pa_cons (pe_lcomp rfl (blkok rfl sub_nil fv_nil) (pi_list (pe_fld (pv 0) rfl)) (fun _ _ _ _ => (pe_callTy (call_list_ofK (K := K) rfl) rfl T.z_list bt_list (pa_cons (pv 0) pa_nil)))) (pa_cons (pe_slice sl_list (pe_fld (pv 0) rfl) po_none (po_some (pe_call (FnOk.mono (ok_need_of T) (by decide)) hr rfl T.m_need_of T.F_need_of.kp T.b_need_of .nil passF (pa_cons (pe_fld (pv 0) rfl) pa_nil)))) pa_nil)))))), ?_⟩
  have l1 : (rowF R L).lookup (Str.ofString "rule") = some (V.ref R) := rfl
  have l2 : (rowF R L).lookup (Str.ofString "known") = some (V.ref L) := rfl
  k_units
  have l6 := C.l6
  have lp := List.length_pos_iff.mpr C.I.1
  have hlast : ps.getLast? = some (ps.getLastD []) := by rw [List.getLastD_eq_getLast?, List.getLast?_eq_some_getLast C.I.1]; rfl
  have bl := C.b _ (List.mem_of_getLast? hlast)
  refine ⟨T.c_Row, dx, _, hx, T.cl_Row, T.na_Row_rule, _, l1, R, rfl, ⟨_, SqL.of hR⟩, fun D nD => cl_ll (ps := ps) (ds := ps) nD (SqL.of hR) hL.ll rfl (by omega) (fun i b p d Hx R' hp hd sx hb hR' => ?_) (fun F as' H1 s1 nF eF lc nc nin nd => ?_)⟩
  · have e : d = p := by rw [hp] at hd; exact (Option.some.inj hd).symm
    subst e
    (iterate 3 (k_units; (try simp only [bst])); k_units)
    exact ⟨_, .inl hb, fun l hl => hR' l _ (same_upd hl _) hl upd_same⟩
  have hx1 := s1 _ _ hx
  refine ⟨T.c_Row, dx, _, hx1, T.cl_Row, T.na_Row_known, _, l2, T.c_Row, dx, _, hx1, T.cl_Row, T.na_Row_rule, _, l1, ?_⟩
  refine ⟨R, as, ps, rfl, SqL.of (s1 _ _ hR), (hL.same s1).ll, by omega, .inr ⟨C.I, _, hlast, bl.1, bl.2, .inl ⟨m, C.m60, C.c1, C.c2, fun H2 s2 => ?_⟩⟩⟩
  have s12 := s1.trans s2
  have eL2 := s12 _ _ hK
  refine ⟨_, rfl, L, rfl, _, SqL.of eL2, fun p np => ?_⟩
  rw [show (ps.length : Int) - 1 + (m : Int) = ((ps.length - 1 + m : Nat) : Int) by omega, cut_upto]
  refine ⟨by decide, fun t nt => ?_⟩
  have up := same_upd np (.lst ((cs.take (ps.length - 1 + m)).map V.ref))
  have ut := same_upd nt (.tup [V.ref F, V.ref p])
  have sA := s2.trans (up.trans ut)
  have npF : F ≠ p := fun z => by rw [← z, s2 _ _ eF] at np; cases np
  have npA : p ∉ as' := (lc.same s2).notin np
  exact q t F p as' (cs.take (ps.length - 1 + m)) _ (s1.trans sA) nF (s12.free np) nc nin npA npF nd (sA _ _ eF) (lc.same sA) (ut _ _ upd_same) ((hT.same (s1.trans sA)).take _) upd_same
def EqD (H : Hp) : Nat → V → V → Prop
  | 0, x, y => ∃ i : Int, x = .int i ∧ y = .int i
  | d + 1, x, y => (∃ i : Int, x = .int i ∧ y = .int i) ∨ ∃ (a b : Addr) (xs ys : List V), x = .ref a ∧ y = .ref b ∧ ((H a = some (.lst xs) ∧ H b = some (.lst ys)) ∨ (H a = some (.tup xs) ∧ H b = some (.tup ys))) ∧ xs.length = ys.length ∧ ∀ (i : Nat) (u v : V), xs[i]? = some u → ys[i]? = some v → EqD H d u v
theorem EqD.same {H H' : Hp} (s : Same H H') : ∀ {d : Nat} {x y : V}, EqD H d x y → EqD H' d x y
  | 0, _, _, h => h
  | d + 1, _, _, .inl h => .inl h
  | d + 1, _, _, .inr ⟨a, b, xs, ys, e1, e2, h, hl, hr⟩ => .inr ⟨a, b, xs, ys, e1, e2, h.imp (fun z => ⟨s _ _ z.1, s _ _ z.2⟩) (fun z => ⟨s _ _ z.1, s _ _ z.2⟩), hl, fun i u v h1 h2 => EqD.same s (hr i u v h1 h2)⟩
def spIsD : Nat → Sp
  | 0 => fun _ _ _ _ => False
  | d + 1 => fun vs H Q _ => ∃ x y : V, vs = [x, y] ∧ EqD H d x y ∧ ∀ H', Same H H' → Q (.bl true) H'
theorem ok__law_is {P : Program} {w : World} {K : PySem.W.Frag} {mg : Str → Option Value} {base : Heap} (T : Tx K mg) : ∀ d : Nat, FnOk P w K mg base CX0 (d + 1) T.a__law_is T.fd__law_is ["_law_found", "_law_due"] (spIsD d)
  | 0 => T.F__law_is.ok sc__law_is (fun _ _ _ _ h => h.elim) (fun _ _ _ _ _ _ _ _ _ h => h.elim)
  | d + 1 => by
    have ih := ok__law_is (P := P) (w := w) (base := base) T d
    refine T.F__law_is.ok sc__law_is (fun vs H Q E h => ?_) (fun cdv A outer s H vs Q E hr h => ?_)
    · obtain ⟨x, y, rfl, _⟩ := h
      rfl
    obtain ⟨x, y, rfl, hd, q⟩ := h
    refine ⟨_, ((pss_cons (ps_if (pt_val (pe_callB call_isinst rfl T.z_isinstance bt_isinstance (pa_cons (pv 1) (pa_cons (pe_bltn (v := .ty "int") rfl T.z_int bt_int rfl) pa_nil)))) (pss_one (ps_ret (pe_and (pe_callB call_isinst rfl T.z_isinstance bt_isinstance (pa_cons (pv 0) (pa_cons (pe_bltn (v := .ty "int") rfl T.z_int bt_int rfl) pa_nil))) (pe_and (pe_not (pe_callB call_isinst rfl T.z_isinstance bt_isinstance (pa_cons (pv 0) (pa_cons (pe_bltn (v := .ty "bool") rfl T.z_bool bt_bool rfl) pa_nil)))) (pe_one (pe_cmpR op_eq (pv 0) (pv 1) (nomark _))))))) pss_nil)
    (pss_cons (ps_if (PW.pt (pw_or (pt_cmpR op_ne (pe_callB call_isinst rfl T.z_isinstance bt_isinstance (pa_cons (pv 1) (pa_cons (pe_bltn (v := .ty "tuple") rfl T.z_tuple bt_tuple rfl) pa_nil))) (pe_callB call_isinst rfl T.z_isinstance bt_isinstance (pa_cons (pv 0) (pa_cons (pe_bltn (v := .ty "tuple") rfl T.z_tuple bt_tuple rfl) pa_nil))) (nomark _)) (pw_or1 (pt_cmpR op_ne (pe_callB call_isinst rfl T.z_isinstance bt_isinstance (pa_cons (pv 1) (pa_cons (pe_bltn (v := .ty "list") rfl T.z_list bt_list rfl) pa_nil))) (pe_callB call_isinst rfl T.z_isinstance bt_isinstance (pa_cons (pv 0) (pa_cons (pe_bltn (v := .ty "list") rfl T.z_list bt_list rfl) pa_nil))) (nomark _))))) (pss_one (ps_ret pe_bl)) pss_nil)
    (pss_cons (ps_if (pt_cmpR op_ne (pe_callB call_len_seq rfl T.z_len bt_len (pa_cons (pv 0) pa_nil)) (pe_callB call_len_seq rfl T.z_len bt_len (pa_cons (pv 1) pa_nil)) (nomark _)) (pss_one (ps_ret pe_bl)) pss_nil)
    (pss_cons (ps_for PassesOwn.never rfl (pi_zipB rfl T.z_zip (pa_cons (pv 0) (pa_cons (pv 1) pa_nil))) (pg_tup rfl (pgs_cons (pg_name (i := 2) sc__law_is.nd rfl (Or.inl rfl)) (pgs_cons (pg_name (i := 3) sc__law_is.nd rfl (Or.inl rfl)) pgs_nil))) (pss_one (ps_if (pt_not (pt_val (pe_call ih hr rfl T.m__law_is T.F__law_is.kp T.b__law_is .nil pass0 (pa_cons (pv 2) (pa_cons (pv 3) pa_nil))))) (pss_one (ps_ret pe_bl)) pss_nil)))
    (pss_one (ps_ret pe_bl))))))), ?_⟩
    dsimp only [a_seq]
    k_typeOf
    obtain h | ⟨d', a, b, xs, ys, rfl, rfl, rfl, hab, hl, hr'⟩ : (∃ i : Int, x = .int i ∧ y = .int i) ∨ ∃ (d' : Nat) (a b : Addr) (xs ys : List V), d = d' + 1 ∧ x = .ref a ∧ y = .ref b ∧ ((H a = some (.lst xs) ∧ H b = some (.lst ys)) ∨ (H a = some (.tup xs) ∧ H b = some (.tup ys))) ∧ xs.length = ys.length ∧ ∀ (i : Nat) (u v : V), xs[i]? = some u → ys[i]? = some v → EqD H d' u v := by
      cases d with
      | zero => exact .inl hd
      | succ d' =>
        rcases hd with h | ⟨a, b, xs, ys, h⟩
        · exact .inl h
        · exact .inr ⟨d', a, b, xs, ys, rfl, h⟩
    · obtain ⟨i, rfl, rfl⟩ := h
      refine ⟨_, .int _, true, rfl, ?_⟩
      rw [if_pos rfl]
      refine ⟨_, .int _, true, rfl, ?_⟩
      rw [if_pos rfl]
      refine ⟨_, .int _, false, rfl, ?_⟩
      rw [if_pos rfl]
      k_units
      exact q H (Same.refl _)
    have sl : SqL K H a xs ∨ SqT K H a xs := hab.imp (fun z => SqL.of z.1) (fun z => SqT.of z.1)
    have sl2 : SqL K H b ys ∨ SqT K H b ys := hab.imp (fun z => SqL.of z.2) (fun z => SqT.of z.2)
    rcases hab with ⟨ea, eb⟩ | ⟨ea, eb⟩
    · refine ⟨_, .lst eb, false, rfl, ?_⟩
      rw [if_neg (by decide)]
      dsimp only [a_seq]
      k_typeOf
      refine ⟨_, .lst eb, false, rfl, _, .lst ea, false, rfl, ?_⟩
      rw [if_neg (by simp)]
      refine ⟨_, .lst eb, true, rfl, _, .lst ea, true, rfl, ?_⟩
      rw [if_neg (by simp)]
      dsimp only [a_seq]
      k_typeOf
      refine ⟨_, sl, _, sl2, ?_⟩
      rw [if_neg (by omega)]
      dsimp only [a_seq]
      k_typeOf
      refine ⟨xs, ys, .inl ⟨SqL.of ea, SqL.of eb, ?_⟩⟩
      obtain ⟨Pv, hPv⟩ : ∃ Pv : Nat → L2.St → Hp → Prop, ∀ i σ H', Pv i σ H' ↔ ∃ r2 r3 : Option V, σ = [some (V.ref a), some (V.ref b), r2, r3] ∧ Same H H' := ⟨_, fun _ _ _ => Iff.rfl⟩
      refine lp_zip (xs := xs) (ys := ys) Pv ((hPv _ _ _).mpr ⟨none, none, rfl, Same.refl _⟩) (fun i σ H' _ _ z => by obtain ⟨_, _, _, z⟩ := (hPv i σ H').mp z; exact ⟨SqL.of (z _ _ ea), SqL.of (z _ _ eb)⟩) ?_ ?_
      · intro i v1 v2 p σ H' h1 h2 hp np
        obtain ⟨r2, r3, rfl, s1⟩ := (hPv _ _ _).mp hp
        have up := same_upd np (.tup [v1, v2])
        k_units
        refine ⟨_, SqT.of upd_same, rfl, _, _, rfl, _, _, rfl, rfl, v1, v2, rfl, EqD.same (s1.trans up) (hr' i v1 v2 h1 h2), fun H2 s2 => ⟨true, rfl, ?_⟩⟩
        rw [if_neg (by decide)]
        exact (hPv _ _ _).mpr ⟨_, _, rfl, s1.trans (up.trans s2)⟩
      · intro σ H' hp
        obtain ⟨r2, r3, rfl, s1⟩ := (hPv _ _ _).mp hp
        k_units
        exact q H' s1
    · refine ⟨_, .tup eb, false, rfl, ?_⟩
      rw [if_neg (by decide)]
      dsimp only [a_seq]
      k_typeOf
      refine ⟨_, .tup eb, true, rfl, _, .tup ea, true, rfl, ?_⟩
      rw [if_neg (by simp)]
      refine ⟨_, .tup eb, false, rfl, _, .tup ea, false, rfl, ?_⟩
      rw [if_neg (by simp)]
      dsimp only [a_seq]
      k_typeOf
      refine ⟨_, sl, _, sl2, ?_⟩
      rw [if_neg (by omega)]
      dsimp only [a_seq]
      k_typeOf
      refine ⟨xs, ys, .inr ⟨SqT.of ea, SqT.of eb, ?_⟩⟩
      obtain ⟨Pv, hPv⟩ : ∃ Pv : Nat → L2.St → Hp → Prop, ∀ i σ H', Pv i σ H' ↔ ∃ r2 r3 : Option V, σ = [some (V.ref a), some (V.ref b), r2, r3] ∧ Same H H' := ⟨_, fun _ _ _ => Iff.rfl⟩
      refine lp_zipT (xs := xs) (ys := ys) Pv ((hPv _ _ _).mpr ⟨none, none, rfl, Same.refl _⟩) (fun i σ H' _ _ z => by obtain ⟨_, _, _, z⟩ := (hPv i σ H').mp z; exact ⟨SqT.of (z _ _ ea), SqT.of (z _ _ eb)⟩) ?_ ?_
      · intro i v1 v2 p σ H' h1 h2 hp np
        obtain ⟨r2, r3, rfl, s1⟩ := (hPv _ _ _).mp hp
        have up := same_upd np (.tup [v1, v2])
        k_units
        refine ⟨_, SqT.of upd_same, rfl, _, _, rfl, _, _, rfl, rfl, v1, v2, rfl, EqD.same (s1.trans up) (hr' i v1 v2 h1 h2), fun H2 s2 => ⟨true, rfl, ?_⟩⟩
        rw [if_neg (by decide)]
        exact (hPv _ _ _).mpr ⟨_, _, rfl, s1.trans (up.trans s2)⟩
      · intro σ H' hp
        obtain ⟨r2, r3, rfl, s1⟩ := (hPv _ _ _).mp hp
        k_units
        exact q H' s1
def dT (f : Int × Int) : PyData := .tuple [.int f.1, .int f.2]
theorem kp_take {ps : List (List Int)} {fs : List (Int × Int)} {n s : Nat} (h : n + ps.length ≤ s) (k : Kp ps fs n) : Kp ps (fs.take s) n := by
  have e : ((fs.take s).drop n).take ps.length = (fs.drop n).take ps.length := by
    rw [List.drop_take, List.take_take, Nat.min_eq_left (by omega)]
  unfold Kp; rw [e]; exact k
theorem carry_take {ps : List (List Int)} {fs : List (Int × Int)} {m s : Nat} (h0 : ps ≠ []) (hf : ∀ f ∈ fs, Frc f) (hk : ∀ n, n + ps.length ≤ fs.length → Kp ps fs n) (hv : ∀ n : Nat, m ≤ n → val (n : Int) (ps.getLastD []) ≠ 0) (hs : ps.length - 1 + m ≤ s) : ∀ i, s + i ≤ fs.length → carryF ps (fs.take s) i = fs.take (s + i)
  | 0, _ => rfl
  | i + 1, h => by
    have ih := carry_take h0 hf hk hv hs i (by omega)
    have lp := List.length_pos_iff.mpr h0
    have hl : s + i < fs.length := by omega
    have e : fs.take (s + i) ++ [fs[s + i]] = fs.take (s + i + 1) := List.take_append_getElem hl
    have key : fs[s + i] = nextF ps (fs.take (s + i)) := by
      refine next_uniq (n := s + i + 1 - ps.length) h0 ?_ (fun f hf' => (hf f (List.mem_of_mem_take hf')).1) (hv _ (by omega)) (hf _ (List.getElem_mem _)) ?_
      · rw [List.length_take]; omega
      · rw [e]; exact kp_take (by omega) (hk _ (by omega))
    simp only [carryF]
    rw [ih, ← key, e]; rfl
theorem Good.sub {fs gs : List (Int × Int)} (h : Good fs) (s : ∀ g ∈ gs, g ∈ fs) : Good gs := by
  obtain ⟨h1, E, h2, h3, h4⟩ := h
  exact ⟨fun f hf => h1 f (s f hf), E, h2, h3, fun f hf => h4 f (s f hf)⟩
def dbl (f : Int × Int) : Int × Int := lowF (2 * f.1) f.2
theorem dbl_frc {f : Int × Int} (h : Frc f) : Frc (dbl f) ∧ (dbl f).1 * f.2 = 2 * f.1 * (dbl f).2 := low_is (by have := h.1; omega)
theorem dbl_dvd {f : Int × Int} (h : Frc f) : (dbl f).2 ∣ f.2 := by
  obtain ⟨d1, d2⟩ := dbl_frc h
  exact cop_dvd (b := (dbl f).1) ⟨2 * f.1, by rw [d2, Int.mul_comm]⟩ (by rw [Int.gcd_comm]; exact d1.2)
theorem wm_dbl {E : Int} : ∀ (vs : List Int) (fs : List (Int × Int)), (∀ f ∈ fs, Frc f ∧ f.2 ∣ E) → Wm E (vs.zip (fs.map dbl)) = 2 * Wm E (vs.zip fs)
  | [], _, _ => by simp [Wm]
  | _ :: _, [], _ => by simp [Wm]
  | v :: vs, f :: fs, h => by
    obtain ⟨hf, c, hc⟩ := h f (by simp)
    have ih := wm_dbl vs fs fun g hg => h g (by simp [hg])
    obtain ⟨d1, d2⟩ := dbl_frc hf
    obtain ⟨d, hd⟩ := dbl_dvd hf
    have f1 := hf.1
    have g1 := d1.1
    simp only [List.map_cons, List.zip_cons_cons, Wm]
    have e1 : E.fdiv f.2 = c := by rw [hc]; exact Int.mul_fdiv_cancel_left c (by omega)
    have e2 : E.fdiv (dbl f).2 = d * c := by rw [hc, hd, Int.mul_assoc]; exact Int.mul_fdiv_cancel_left _ (by omega)
    have e3 : (dbl f).1 * d = 2 * f.1 := by
      refine Int.eq_of_mul_eq_mul_left (show (dbl f).2 ≠ 0 by omega) ?_
      generalize dbl f = g at d2 hd
      rw [hd] at d2; grind
    rw [ih, e1, e2]
    generalize dbl f = g at e3
    have e4 : v * g.1 * (d * c) = v * (g.1 * d) * c := by grind
    rw [e4, e3]; grind
def SameX (S : List Addr) (H H' : Hp) : Prop := ∀ b o, b ∉ S → H b = some o → H' b = some o
theorem SameX.trans {S : List Addr} {H H1 H2 : Hp} (a : SameX S H H1) (b : SameX S H1 H2) : SameX S H H2 := fun c o n h => b c o n (a c o n h)
theorem same_x {S : List Addr} {H H' : Hp} (h : Same H H') : SameX S H H' := fun b o _ e => h b o e
def Lsts (S : List Addr) (H : Hp) : Prop := ∀ s ∈ S, ∃ xs, H s = some (.lst xs)
theorem Lsts.tup {S : List Addr} {H : Hp} (l : Lsts S H) {b : Addr} {xs : List V} (n : H b = some (.tup xs)) : b ∉ S := fun z => by
  obtain ⟨xs, e⟩ := l b z
  rw [n] at e; cases e
theorem LH.kept {S : List Addr} {H H' : Hp} {as : List Addr} {ps : List (List Int)} (h : LH H as ps) (s : SameX S H H') (n : ∀ a ∈ as, a ∉ S) : LH H' as ps := ⟨h.len, fun i a p h1 h2 => s _ _ (n a (List.mem_of_getElem? h1)) (h.get i a p h1 h2)⟩
theorem TH.kept {S : List Addr} {H H' : Hp} {as : List Addr} {gs : List (Int × Int)} (h : TH H as gs) (s : SameX S H H') (l : Lsts S H) : TH H' as gs := ⟨h.len, fun i a p h1 h2 => s _ _ (l.tup (h.get i a p h1 h2)) (h.get i a p h1 h2)⟩
theorem same_make {H : Hp} {x dx C : Addr} (nx : H x = none) (nd : H dx = none) (ne : dx ≠ x) : Same H (upd (upd H dx (.own x)) x (.ins C dx [])) :=
  (same_upd nd _).trans (same_upd (by rw [upd_ne (Ne.symm ne)]; exact nx) _)
structure RowAt (C : Addr) (H : Hp) (x dx R L : Addr) (as cs : List Addr) (ps : List (List Int)) (ff : List (Int × Int)) (m k : Nat) : Prop where
  hx : H x = some (.ins C dx (rowF R L))
  hR : H R = some (.lst (as.map V.ref))
  hL : LH H as ps
  nRL : R ≠ L
  nin : L ∉ as
  hK : H L = some (.lst (cs.map V.ref))
  hT : TH H cs (carryF ps ff k)
  l4 : ff.length ≤ 480
  c : Cr ps ff m
theorem RowAt.same {C : Addr} {H H' : Hp} {x dx R L : Addr} {as cs : List Addr} {ps : List (List Int)} {ff : List (Int × Int)} {m k : Nat} (r : RowAt C H x dx R L as cs ps ff m k) (s : Same H H') : RowAt C H' x dx R L as cs ps ff m k :=
  ⟨s _ _ r.hx, s _ _ r.hR, r.hL.same s, r.nRL, r.nin, s _ _ r.hK, r.hT.same s, r.l4, r.c⟩
theorem RowAt.on {C : Addr} {H H' : Hp} {x dx R L : Addr} {as cs cs' : List Addr} {ps : List (List Int)} {ff : List (Int × Int)} {m k k' : Nat} (r : RowAt C H x dx R L as cs ps ff m k) {S : List Addr} (s : SameX S H H') (lS : Lsts S H) (nR : R ∈ S → R = L) (na : ∀ a ∈ as, a ∈ S → a = L) (eK : H' L = some (.lst (cs'.map V.ref))) (eT : TH H' cs' (carryF ps ff k')) : RowAt C H' x dx R L as cs' ps ff m k' :=
  ⟨s _ _ (fun z => by obtain ⟨xs, e⟩ := lS _ z; rw [r.hx] at e; cases e) r.hx, s _ _ (fun z => r.nRL (nR z)) r.hR, r.hL.kept s (fun a ha z => r.nin (by rw [← na a ha z]; exact ha)), r.nRL, r.nin, eK, eT, r.l4, r.c⟩
theorem row_made {C : Addr} {H H' : Hp} {x dx R L : Addr} {as cs : List Addr} {ps : List (List Int)} {ff : List (Int × Int)} {m : Nat} (nx : H x = none) (nd : H dx = none) (ne : dx ≠ x)
    (kp : ∀ b o, b ≠ x → upd (upd H dx (.own x)) x (.ins C dx []) b = some o → H' b = some o) (nR : upd (upd H dx (.own x)) x (.ins C dx []) R = none) (nL : upd (upd H dx (.own x)) x (.ins C dx []) L = none) (nas : ∀ b ∈ as, upd (upd H dx (.own x)) x (.ins C dx []) b = none)
    (nRL : R ≠ L) (nin : L ∉ as) (hx : H' x = some (.ins C dx (rowF R L))) (hR : H' R = some (.lst (as.map V.ref))) (hL : LH H' as ps) (hK : H' L = some (.lst (cs.map V.ref))) (hT : TH H cs ff) (l4 : ff.length ≤ 480) (c : Cr ps ff m) :
    Same H H' ∧ RowAt C H' x dx R L as cs ps ff m 0 ∧ H R = none ∧ H L = none ∧ ∀ b ∈ as, H b = none := by
  have s1 := same_make (C := C) nx nd ne
  have s2 : Same H H' := fun b o e => kp b o (fun z => by rw [z, nx] at e; cases e) (s1 b o e)
  exact ⟨s2, ⟨hx, hR, hL, nRL, nin, hK, hT.same s2, l4, c⟩, s1.free nR, s1.free nL, fun b hb => s1.free (nas b hb)⟩
theorem RowAt.keep {C : Addr} {H H' : Hp} {x dx R L : Addr} {as cs : List Addr} {ps : List (List Int)} {ff : List (Int × Int)} {m k : Nat} (r : RowAt C H x dx R L as cs ps ff m k) {S : List Addr} (s : SameX S H H') (lS : Lsts S H) (nR : R ∉ S) (na : ∀ a ∈ as, a ∉ S) (nL : L ∉ S) : RowAt C H' x dx R L as cs ps ff m k :=
  r.on s lS (fun z => absurd z nR) (fun a ha z => absurd z (na a ha)) (s _ _ nL r.hK) (r.hT.kept s lS)
def scl (g f : Int × Int) : Int × Int := lowF (f.1 * g.1) (f.2 * g.2)
theorem one_le_mul {a b : Int} (ha : 1 ≤ a) (hb : 1 ≤ b) : 1 ≤ a * b := by
  have := Int.mul_le_mul ha hb (by omega) (by omega); omega
theorem scl_frc {g f : Int × Int} (hg : 1 ≤ g.2) (h : Frc f) : Frc (scl g f) ∧ (scl g f).1 * (f.2 * g.2) = f.1 * g.1 * (scl g f).2 := low_is (by have := one_le_mul h.1 hg; omega)
theorem scl_dvd {g f : Int × Int} (hg : 1 ≤ g.2) (h : Frc f) : (scl g f).2 ∣ f.2 * g.2 := by
  obtain ⟨d1, d2⟩ := scl_frc hg h
  exact cop_dvd (b := (scl g f).1) ⟨f.1 * g.1, by rw [d2, Int.mul_comm]⟩ (by rw [Int.gcd_comm]; exact d1.2)
theorem scl_le {g f : Int × Int} (hg : 1 ≤ g.2) (h : Frc f) : (scl g f).1.natAbs ≤ f.1.natAbs * g.1.natAbs := by
  obtain ⟨d1, d2⟩ := scl_frc hg h
  obtain ⟨c, hc⟩ := scl_dvd hg h
  have f1 := one_le_mul h.1 hg
  have g1 := d1.1
  have e : (scl g f).2 * ((scl g f).1 * c) = (scl g f).2 * (f.1 * g.1) := by
    generalize scl g f = u at d2 hc
    rw [hc] at d2; grind
  have e2 := Int.eq_of_mul_eq_mul_left (by omega) e
  have c0 : c ≠ 0 := fun z => by rw [z, Int.mul_zero] at hc; omega
  have e3 := congrArg Int.natAbs e2
  rw [Int.natAbs_mul, Int.natAbs_mul] at e3
  rw [← e3]
  exact Nat.le_mul_of_pos_right _ (by omega)
theorem wm_scl {E : Int} {g : Int × Int} (hg : 1 ≤ g.2) : ∀ (vs : List Int) (fs : List (Int × Int)), (∀ f ∈ fs, Frc f ∧ f.2 ∣ E) → Wm (E * g.2) (vs.zip (fs.map (scl g))) = g.1 * Wm E (vs.zip fs)
  | [], _, _ => by simp [Wm]
  | _ :: _, [], _ => by simp [Wm]
  | v :: vs, f :: fs, h => by
    obtain ⟨hf, c, hc⟩ := h f (by simp)
    have ih := wm_scl hg vs fs fun u hu => h u (by simp [hu])
    obtain ⟨d1, d2⟩ := scl_frc hg hf
    obtain ⟨d, hd⟩ := scl_dvd hg hf
    have f1 := hf.1
    have g1 := d1.1
    simp only [List.map_cons, List.zip_cons_cons, Wm]
    have e1 : E.fdiv f.2 = c := by rw [hc]; exact Int.mul_fdiv_cancel_left c (by omega)
    have e2 : (E * g.2).fdiv (scl g f).2 = d * c := by
      have : E * g.2 = (scl g f).2 * (d * c) := by rw [hc, ← Int.mul_assoc, ← hd]; grind
      rw [this]; exact Int.mul_fdiv_cancel_left _ (by omega)
    have e3 : (scl g f).1 * d = f.1 * g.1 := by
      refine Int.eq_of_mul_eq_mul_left (show (scl g f).2 ≠ 0 by omega) ?_
      generalize scl g f = u at d2 hd
      rw [hd] at d2; grind
    rw [ih, e1, e2]
    generalize scl g f = u at e3
    have e4 : v * u.1 * (d * c) = v * (u.1 * d) * c := by grind
    rw [e4, e3]; grind
theorem kp_scl {ps : List (List Int)} {fs : List (Int × Int)} {g : Int × Int} {n : Nat} (hg : 1 ≤ g.2) (hf : ∀ f ∈ fs, Frc f) (k : Kp ps fs n) : Kp ps (fs.map (scl g)) n := by
  unfold Kp at *
  rw [← List.map_drop, ← List.map_take]
  have hg' : ∀ f ∈ (fs.drop n).take ps.length, Frc f := fun f h => hf f (List.mem_of_mem_drop (List.mem_of_mem_take h))
  generalize (fs.drop n).take ps.length = gs at k hg'
  have p1 := lcm_pos gs fun f h => (hg' f h).1
  have p3 := one_le_mul p1 hg
  have p2 := lcm_pos (gs.map (scl g)) fun f h => by obtain ⟨u, hu, rfl⟩ := List.mem_map.mp h; exact (scl_frc hg (hg' u hu)).1.1
  have t := wm_two (M := lcmL (gs.map (scl g))) (M' := lcmL gs * g.2) (gs := (ps.map (val (n : Int))).zip (gs.map (scl g)))
    (fun u h => by have h2 := (List.of_mem_zip h).2; obtain ⟨f, hf', e⟩ := List.mem_map.mp h2; exact ⟨by rw [← e]; exact (scl_frc hg (hg' f hf')).1.1, lcm_dvd _ _ h2⟩)
    (fun u h => by have h2 := (List.of_mem_zip h).2; obtain ⟨f, hf', e⟩ := List.mem_map.mp h2; exact ⟨by rw [← e]; exact (scl_frc hg (hg' f hf')).1.1, by rw [← e]; exact Int.dvd_trans (scl_dvd hg (hg' f hf')) (Int.mul_dvd_mul_right _ (lcm_dvd _ _ hf'))⟩)
  rw [wm_scl hg _ _ fun f h => ⟨hg' f h, lcm_dvd _ _ h⟩, k, Int.mul_zero, Int.zero_mul] at t
  rcases Int.mul_eq_zero.mp t with z | z
  · exact z
  · omega
theorem InvV.goodS {e : Nat} {vs : List (Int × Int)} {g : Int × Int} (h : InvV e vs) (hl : vs.length ≤ 100) (he : 1 + e * vs.length ≤ 2000) (g1 : Bd 200 g.1) (hg : 1 ≤ g.2) (g2 : Bd 200 g.2) : Good (vs.map (scl g)) := by
  obtain ⟨E, E1, Eb, Ed⟩ := h.E
  refine ⟨fun f hf => ?_, E * g.2, one_le_mul E1 hg, (Eb.mul g2).mono (by omega), fun f hf => ?_⟩
  · obtain ⟨u, hu, rfl⟩ := List.mem_map.mp hf
    have F := (h.f u hu).1
    refine ⟨(scl_frc hg F).1, ?_⟩
    have h1 := (h.f u hu).2
    have h2 : u.2.natAbs ≤ E.natAbs := Nat.le_of_dvd (by omega) (Int.natAbs_dvd_natAbs.mpr (Ed u hu))
    have h3 : E.natAbs < 2 ^ 2000 := Eb.mono he
    show (scl g u).1.natAbs < 2 ^ 20000
    have h0 := scl_le hg F
    have h4 : (2 : Nat) ^ (300 + 90 * vs.length) ≤ 2 ^ 9300 := pow_up (by omega)
    have h5 := Nat.mul_le_mul h4 (show u.2.natAbs ≤ 2 ^ 2000 by omega)
    rw [← Nat.pow_add] at h5
    have h6 : u.1.natAbs ≤ 2 ^ (9300 + 2000) := Nat.le_trans h1 h5
    have h7 := Nat.mul_le_mul h6 (show g.1.natAbs ≤ 2 ^ 200 from Nat.le_of_lt g1)
    rw [← Nat.pow_add] at h7
    have h8 : (2 : Nat) ^ (9300 + 2000 + 200) < 2 ^ 20000 := Nat.pow_lt_pow_right (by decide) (by decide)
    omega
  · obtain ⟨u, hu, rfl⟩ := List.mem_map.mp hf
    exact Int.dvd_trans (scl_dvd hg (h.f u hu).1) (Int.mul_dvd_mul_right _ (Ed u hu))
theorem kp_shift {ps : List (List Int)} {fs : List (Int × Int)} {b n : Nat} : Kp (ps.map (shiftL (b : Int))) (fs.drop b) n ↔ Kp ps fs (n + b) := by
  unfold Kp
  have e : (ps.map (shiftL (b : Int))).map (val (n : Int)) = ps.map (val ((n + b : Nat) : Int)) := by
    rw [List.map_map]
    refine List.map_congr_left fun p _ => ?_
    show val (n : Int) (shiftL (b : Int) p) = _
    rw [val_shift]; rfl
  rw [List.length_map, e, List.drop_drop, Nat.add_comm b n]
theorem clr_shift (b j : Int) (p : List Int) : clr j (shiftL b p) = clr (j + b) p := by
  have e : Clear (shiftL j (shiftL b p)) ↔ Clear (shiftL (j + b) p) := by
    rw [← os_clear, ← os_clear]
    exact os_co fun k => co_of_val (fun n => by rw [val_shift, val_shift, val_shift, Int.add_assoc]) k
  cases h : clr (j + b) p with
  | true => exact (clr_iff _ _).mpr (e.mpr ((clr_iff _ _).mp h))
  | false =>
    cases h' : clr j (shiftL b p) with
    | false => rfl
    | true => rw [(clr_iff _ _).mpr (e.mp ((clr_iff _ _).mp h'))] at h; cases h
theorem shift_bd3 {b : Int} {k : Nat} {xs : List Int} (hb : Bd 7 b) (hl : xs.length ≤ 3) (hx : ∀ x ∈ xs, Bd k x) : ∀ y ∈ shiftL b xs, Bd (k + 20) y := by
  have e1 : ∀ x y z : Int, shiftL b [x, y, z] = [x + b * (y + b * z), y + b * z + b * z, z] := fun x y z => by
    refine co_ext (by rw [shift_len]; rfl) fun j _ => co_of_val (fun n => ?_) j
    rw [val_shift]; simp only [val]; grind
  have e2 : ∀ x y : Int, shiftL b [x, y] = [x + b * y, y] := fun x y => by
    refine co_ext (by rw [shift_len]; rfl) fun j _ => co_of_val (fun n => ?_) j
    rw [val_shift]; simp only [val]; grind
  have e3 : ∀ x : Int, shiftL b [x] = [x] := fun x => by
    refine co_ext (shift_len b [x]) fun j _ => co_of_val (fun n => ?_) j
    rw [val_shift]; simp only [val]; simp
  match xs, hl, hx with
  | [], _, _ => intro y hy; simp [shiftL, shiftN] at hy
  | [x], _, hx => intro y hy; rw [e3] at hy; exact (hx y hy).mono (by omega)
  | [x, y], _, hx =>
    intro u hu
    rw [e2] at hu
    have h1 := hx x (by simp)
    have h2 := hx y (by simp)
    simp at hu
    rcases hu with rfl | rfl
    · exact ((h1.mono (show k ≤ 7 + k by omega)).add (hb.mul h2)).mono (by omega)
    · exact h2.mono (by omega)
  | [x, y, z], _, hx =>
    intro u hu
    rw [e1] at hu
    have h1 := hx x (by simp)
    have h2 := hx y (by simp)
    have h3 := hx z (by simp)
    simp at hu
    rcases hu with rfl | rfl | rfl
    · exact ((h1.mono (show k ≤ 7 + (7 + k + 1) by omega)).add (hb.mul ((h2.mono (show k ≤ 7 + k by omega)).add (hb.mul h3)))).mono (by omega)
    · exact (((h2.mono (show k ≤ 7 + k by omega)).add (hb.mul h3)).add ((hb.mul h3).mono (Nat.le_succ _))).mono (by omega)
    · exact h3.mono (by omega)
def stp : Nat → List Int
  | 0 => [1]
  | 1 => [-1, 1]
  | 2 => [1, -2, 1]
  | 3 => [-1, 3, -3, 1]
  | 4 => [1, -4, 6, -4, 1]
  | _ => [-1, 5, -10, 10, -5, 1]
theorem stp_len {k : Nat} (h : k ≤ 5) : (stp k).length = k + 1 := by
  match k, h with
  | 0, _ => rfl
  | 1, _ => rfl
  | 2, _ => rfl
  | 3, _ => rfl
  | 4, _ => rfl
  | 5, _ => rfl
theorem stp_mul {k : Nat} (h : k ≤ 4) : mulL (stp k) [-1, 1] = stp (k + 1) := by
  match k, h with
  | 0, _ => decide
  | 1, _ => decide
  | 2, _ => decide
  | 3, _ => decide
  | 4, _ => decide
def pvs (p : List Int) (N : Nat) : List (Int × Int) := (List.range N).map fun n : Nat => (val (n : Int) p, (1 : Int))
theorem pvs_len (p : List Int) (N : Nat) : (pvs p N).length = N := by unfold pvs; simp
theorem pvs_get (p : List Int) {N i : Nat} (h : i < N) : (pvs p N)[i]? = some (val (i : Int) p, 1) := by
  unfold pvs
  rw [List.getElem?_map, List.getElem?_range h]; rfl
theorem pvs_drop (p : List Int) {N n : Nat} (h : n < N) : (pvs p N).drop n = (val (n : Int) p, 1) :: (pvs p N).drop (n + 1) := by
  have := pvs_get p h
  obtain ⟨h1, h2⟩ := List.getElem?_eq_some_iff.mp this
  rw [List.drop_eq_getElem_cons h1, h2]
theorem pvs_take (p : List Int) {N s : Nat} (h : s ≤ N) : (pvs p N).take s = pvs p s := by
  unfold pvs
  rw [← List.map_take, List.take_range, Nat.min_eq_left h]
theorem kp_diff {p : List Int} {k N n : Nat} (hp : p.length = k) (h5 : k ≤ 5) (h : n + (k + 1) ≤ N) : Kp ((stp k).map fun c => [c]) (pvs p N) n := by
  have c1 : ∀ (m : Int) (c : Int), val m [c] = c := fun m c => by simp [val]
  unfold Kp
  match k, h5 with
  | 0, _ =>
    obtain rfl : p = [] := List.eq_nil_of_length_eq_zero hp
    rw [pvs_drop _ (by omega)]
    simp [stp, lcmL, Wm, val]
  | 1, _ =>
    match p, hp with
    | [a], _ =>
      rw [pvs_drop _ (by omega), pvs_drop _ (by omega)]
      simp [stp, lcmL, Wm, val]; try grind
  | 2, _ =>
    match p, hp with
    | [a, b], _ =>
      rw [pvs_drop _ (by omega), pvs_drop _ (by omega), pvs_drop _ (by omega)]
      simp [stp, lcmL, Wm, val]; try grind
  | 3, _ =>
    match p, hp with
    | [a, b, c], _ =>
      rw [pvs_drop _ (by omega), pvs_drop _ (by omega), pvs_drop _ (by omega), pvs_drop _ (by omega)]
      simp [stp, lcmL, Wm, val]; try grind
  | 4, _ =>
    match p, hp with
    | [a, b, c, d], _ =>
      rw [pvs_drop _ (by omega), pvs_drop _ (by omega), pvs_drop _ (by omega), pvs_drop _ (by omega), pvs_drop _ (by omega)]
      simp [stp, lcmL, Wm, val]; try grind
  | 5, _ =>
    match p, hp with
    | [a, b, c, d, e], _ =>
      rw [pvs_drop _ (by omega), pvs_drop _ (by omega), pvs_drop _ (by omega), pvs_drop _ (by omega), pvs_drop _ (by omega), pvs_drop _ (by omega)]
      simp [stp, lcmL, Wm, val]; try grind
def pwf (f : Int × Int) (n : Nat) : Int × Int := (f.1 ^ n, f.2 ^ n)
theorem pwf_pos {f : Int × Int} (h : 1 ≤ f.2) : ∀ n : Nat, 1 ≤ f.2 ^ n
  | 0 => by simp
  | n + 1 => by rw [Int.pow_succ]; exact one_le_mul (pwf_pos h n) h
theorem pwf_frc {f : Int × Int} (h : Frc f) (n : Nat) : Frc (pwf f n) := by
  refine ⟨pwf_pos h.1 n, ?_⟩
  show Nat.gcd (f.1 ^ n).natAbs (f.2 ^ n).natAbs = 1
  rw [Int.natAbs_pow, Int.natAbs_pow]
  exact Nat.Coprime.pow n n h.2
def pws (f : Int × Int) (N : Nat) : List (Int × Int) := (List.range N).map (pwf f)
theorem pws_len (f : Int × Int) (N : Nat) : (pws f N).length = N := by unfold pws; simp
theorem pws_drop (f : Int × Int) {N n : Nat} (h : n < N) : (pws f N).drop n = pwf f n :: (pws f N).drop (n + 1) := by
  have e : (pws f N)[n]? = some (pwf f n) := by unfold pws; rw [List.getElem?_map, List.getElem?_range h]; rfl
  obtain ⟨h1, h2⟩ := List.getElem?_eq_some_iff.mp e
  rw [List.drop_eq_getElem_cons h1, h2]
theorem kp_pws {f : Int × Int} {q : List Int} (hf : 1 ≤ f.2) (hq : ∀ n, val n q = -f.1) {N n : Nat} (h : n + 2 ≤ N) : Kp [q, [f.2]] (pws f N) n := by
  unfold Kp
  rw [pws_drop _ (by omega), pws_drop _ (by omega)]
  have p1 := pwf_pos hf n
  have p2 := pwf_pos hf (n + 1)
  have e1 : (f.2 ^ n * f.2 ^ (n + 1)).fdiv (f.2 ^ n) = f.2 ^ (n + 1) := Int.mul_fdiv_cancel_left _ (by omega)
  have e2 : (f.2 ^ n * f.2 ^ (n + 1)).fdiv (f.2 ^ (n + 1)) = f.2 ^ n := by rw [Int.mul_comm]; exact Int.mul_fdiv_cancel_left _ (by omega)
  have c1 : ∀ (m : Int) (c : Int), val m [c] = c := fun m c => by simp [val]
  simp only [List.length_cons, List.length_nil, List.take_succ_cons, List.take_zero, List.map_cons, List.map_nil, List.zip_cons_cons, List.zip_nil_right, lcmL, Wm, pwf, hq, c1, Int.mul_one, e1, e2]
  rw [Int.pow_succ, Int.pow_succ]; grind
def lin (m : Int) (p : List Int) : List Int := (List.range (p.length + 1)).map fun j : Nat => (if j = 0 then 0 else co p (j - 1)) - m * co p j
theorem lin_co (m : Int) (p : List Int) (j : Nat) : co (lin m p) j = (if j = 0 then 0 else co p (j - 1)) - m * co p j := by
  unfold lin
  rw [co_map]
  by_cases h : j < p.length + 1
  · rw [if_pos h]
  · rw [if_neg h, co_ge (show p.length ≤ j by omega), if_neg (by omega), co_ge (show p.length ≤ j - 1 by omega)]; simp
theorem lin_is {m : Int} {p : List Int} (n : Nml p) (h : p ≠ []) : lin m p = pdL p [-m, 1] := by
  have lp := List.length_pos_iff.mpr h
  have ll : (lin m p).length = p.length + 1 := by unfold lin; simp
  refine nml_ext (nml_of_last (.inr ?_)) (pd_nml _ _) fun j => ?_
  · rw [ll, lin_co, if_neg (by omega), show p.length + 1 - 1 - 1 = p.length - 1 by omega, co_ge (show p.length ≤ p.length + 1 - 1 by omega)]
    have := co_last n h
    simp; exact this
  · rw [lin_co, pd_lin]; split <;> grind
theorem os_sign {ts : List Int} {e : Int} (he : e = 1 ∨ e = -1) (h0 : 0 < e * co ts 0) (h : ∀ x ∈ ts, 0 ≤ e * x) : clr 0 ts = true := by
  have hz : Clear (shiftL 0 ts) ↔ Clear ts := by
    rw [← os_clear, ← os_clear]
    exact os_co fun k => co_of_val (fun n => by rw [val_shift]; simp) k
  rw [clr_iff, hz, ← os_clear]
  refine ⟨fun z => by rw [z] at h0; simp at h0, fun j => ?_⟩
  have h1 : 0 ≤ e * co ts j := co_in (P := fun x => 0 ≤ e * x) h (by simp) j
  have h2 := Int.mul_nonneg h1 (Int.le_of_lt h0)
  have ee : e * e = 1 := by rcases he with rfl | rfl <;> rfl
  have : e * co ts j * (e * co ts 0) = (e * e) * (co ts j * co ts 0) := by grind
  rw [this, ee, Int.one_mul] at h2; exact h2
theorem clr_one : clr 0 [1] = true := os_sign (e := 1) (.inl rfl) (by decide) (by simp)
def spPoly (K : PySem.W.Frag) (f : List Int → List Int → List Int) : Sp := fun vs H Q _ => ∃ (a b : Addr) (xs ys : List Int), vs = [.ref a, .ref b] ∧ SqL K H a (xs.map V.int) ∧ SqL K H b (ys.map V.int) ∧ xs.length ≤ 100 ∧ ys.length ≤ 100 ∧
  (∀ x ∈ xs, Bd 60000 x) ∧ (∀ y ∈ ys, Bd 60000 y) ∧ newL H Q ((f xs ys).map V.int)
theorem rep_zero (k : Nat) : (List.replicate k [V.int 0]).flatten = (List.replicate k (0 : Int)).map V.int := by
  induction k with
  | zero => rfl
  | succ k ih => rw [List.replicate_succ, List.flatten_cons, ih, List.replicate_succ]; rfl
theorem co_rep (k j : Nat) : co (List.replicate k 0) j = 0 := by
  unfold co
  rw [List.getD_eq_getElem?_getD, List.getElem?_replicate]
  split <;> rfl
theorem mul_nilL (ys : List Int) : mulL [] ys = [] := trim_nilI.mpr fun k => by
  rw [co_map]; split <;> rfl
theorem mul_nilR (xs : List Int) : mulL xs [] = [] := trim_nilI.mpr fun k => by
  rw [co_map]
  split
  · exact sumN_zero fun j _ => by unfold cz; split <;> simp [co_nil]
  · rfl
theorem ok_poly_times {P : Program} {w : World} {K : PySem.W.Frag} {mg : Str → Option Value} {base : Heap} (T : Tx K mg) : FnOk P w K mg base CX0 2 T.a_poly_times T.fd_poly_times ["one", "other"] (spPoly K mulL) := by
  refine T.F_poly_times.ok sc_poly_times (fun vs H Q E h => ?_) (fun cdv A outer s H vs Q E hr h => ?_)
  · obtain ⟨a, b, xs, ys, rfl, _⟩ := h
    rfl
  obtain ⟨a, b, xs, ys, rfl, hA, hB, la, lb, ba, bb, q⟩ := h
  refine ⟨_, ((pss_cons (ps_if (PW.pt (pw_or (pt_cmpR op_eq (pe_callB call_len_seq rfl T.z_len bt_len (pa_cons (pv 0) pa_nil)) pe_int (nomark _)) (pw_or1 (pt_cmpR op_eq (pe_callB call_len_seq rfl T.z_len bt_len (pa_cons (pv 1) pa_nil)) pe_int (nomark _))))) (pss_one (ps_ret (pe_lst pa_nil))) pss_nil)
    (pss_cons (ps_set (i := 2) sc_poly_times.nd rfl (Or.inl rfl) (pe_op op_rep (pe_lst (pa_cons pe_int pa_nil)) (pe_op op_sub (pe_op op_add (pe_callB call_len_seq rfl T.z_len bt_len (pa_cons (pv 0) pa_nil)) (pe_callB call_len_seq rfl T.z_len bt_len (pa_cons (pv 1) pa_nil))) pe_int)))
    (pss_cons (ps_for PassesOwn.never rfl (pi_enum rfl T.z_enumerate (pa_cons (pv 0) pa_nil)) (pg_tup rfl (pgs_cons (pg_name (i := 3) sc_poly_times.nd rfl (Or.inl rfl)) (pgs_cons (pg_name (i := 4) sc_poly_times.nd rfl (Or.inl rfl)) pgs_nil))) (pss_one (ps_for PassesOwn.never rfl (pi_enum rfl T.z_enumerate (pa_cons (pv 1) pa_nil)) (pg_tup rfl (pgs_cons (pg_name (i := 5) sc_poly_times.nd rfl (Or.inl rfl)) (pgs_cons (pg_name (i := 6) sc_poly_times.nd rfl (Or.inl rfl)) pgs_nil))) (pss_one (ps_augS (pv 2) (pe_op op_add (pv 3) (pv 5)) get_list (pe_op op_mulZ (pv 4) (pv 6)) ip_add set_list)))))
    (pss_one (ps_ret (pe_call (FnOk.mono (ok_trimmed T) (by decide)) hr rfl T.m_trimmed T.F_trimmed.kp T.b_trimmed .nil pass0 (pa_cons (pv 2) pa_nil)))))))), ?_⟩
  k_units
  refine ⟨_, .inl hA, ?_⟩
  rw [List.length_map]
  have nil : mulL xs ys = [] → 0 ≤ sizeLine ∧ ∀ (p : Addr), H p = none → Q (V.ref p) (upd H p (HO.lst [])) := fun e => ⟨Nat.zero_le _, fun p hp => q p _ (same_upd hp _) hp (by rw [upd_same, e]; rfl)⟩
  refine ite2 (fun h => nil ?_) (fun h => ⟨_, .inl hB, ?_⟩)
  · rw [List.eq_nil_of_length_eq_zero (show xs.length = 0 by omega)]; exact mul_nilL ys
  rw [List.length_map]
  refine ite2 (fun h2 => nil ?_) (fun h2 => ?_)
  · rw [List.eq_nil_of_length_eq_zero (show ys.length = 0 by omega)]; exact mul_nilR xs
  refine ⟨by decide, fun p hp => ?_⟩
  have s1 := same_upd hp (.lst [V.int 0])
  refine ⟨_, .inl (s1.seq hA), _, .inl (s1.seq hB), _, upd_same, ?_⟩
  rw [List.length_map, List.length_map, rep_zero]
  obtain ⟨k, hk⟩ : ∃ k : Nat, ((xs.length : Int) + (ys.length : Int) - 1).toNat = k := ⟨_, rfl⟩
  rw [hk]
  refine ⟨by omega, by omega, Nat.le_of_lt (small1000 (by simp; omega)), fun A0 hA0 => ?_⟩
  have s4 := s1.trans (same_upd hA0 (.lst ((List.replicate k (0 : Int)).map V.int)))
  have hn0 := s1.free hA0
  have h4 : upd (upd H p (.lst [V.int 0])) A0 (.lst ((List.replicate k (0 : Int)).map V.int)) A0 = _ := upd_same
  generalize upd (upd H p (.lst [V.int 0])) A0 (.lst ((List.replicate k (0 : Int)).map V.int)) = H4 at s4 h4 ⊢
  refine ⟨_, s4.seq hA, ?_⟩
  obtain ⟨Pv, hPv⟩ : ∃ Pv : Nat → L2.St → Hp → Prop, ∀ l σ H', Pv l σ H' ↔ ∃ (zs : List Int) (r1 r2 r3 r4 : Option V), σ = [some (V.ref a), some (V.ref b), some (V.ref A0), r1, r2, r3, r4] ∧ H' A0 = some (.lst (zs.map V.int)) ∧ zs.length = k ∧
    (∀ j, co zs j = if j + 1 < xs.length + ys.length then cv xs ys l j else 0) ∧ Same H H' := ⟨_, fun _ _ _ => Iff.rfl⟩
  refine lp_enum Pv ((hPv _ _ _).mpr ⟨_, none, none, none, none, rfl, h4, by simp, fun j => by rw [co_rep]; split <;> rfl, s4⟩) (fun i σ H' _ z => by obtain ⟨_, _, _, _, _, _, _, _, _, z5⟩ := (hPv i σ H').mp z; exact z5.seq hA) ?_ ?_
  · intro l v pt σ H' hv hp' hpt
    obtain ⟨zs, r1, r2, r3, r4, rfl, hz, lz, cz', sz⟩ := (hPv _ _ _).mp hp'
    have hi : l < xs.length := by have := (List.getElem?_eq_some_iff.mp hv).1; rw [List.length_map] at this; exact this
    rw [List.getElem?_map, List.getElem?_eq_getElem hi] at hv
    obtain rfl : V.int xs[l] = v := Option.some.inj hv
    have s5 := same_upd hpt (.tup [V.int l, V.int xs[l]])
    k_units
    refine ⟨_, SqT.of upd_same, rfl, ?_⟩
    k_units
    have s6 := sz.trans s5
    have hz5 := s5 _ _ hz
    generalize upd H' pt (.tup [V.int l, V.int xs[l]]) = H5 at s6 hz5 ⊢
    refine ⟨_, s6.seq hB, ?_⟩
    obtain ⟨Pw, hPw⟩ : ∃ Pw : Nat → L2.St → Hp → Prop, ∀ j σ H', Pw j σ H' ↔ ∃ (zs : List Int) (r3 r4 : Option V), σ = [some (V.ref a), some (V.ref b), some (V.ref A0), some (V.int l), some (V.int xs[l]), r3, r4] ∧ H' A0 = some (.lst (zs.map V.int)) ∧ zs.length = k ∧
      (∀ t, co zs t = (if t + 1 < xs.length + ys.length then cv xs ys l t else 0) + if l ≤ t ∧ t < l + j then xs[l] * co ys (t - l) else 0) ∧ Same H H' := ⟨_, fun _ _ _ => Iff.rfl⟩
    refine lp_enum Pw ((hPw _ _ _).mpr ⟨zs, _, _, rfl, hz5, lz, fun t => by rw [cz' t, if_neg (show ¬ (l ≤ t ∧ t < l + 0) by omega)]; omega, s6⟩) (fun i σ H' _ z => by obtain ⟨_, _, _, _, _, _, _, z5⟩ := (hPw i σ H').mp z; exact z5.seq hB) ?_ ?_
    · intro j v pt σ H' hv hp' hpt
      obtain ⟨zs, r3, r4, rfl, hz, lz, cz', sz⟩ := (hPw _ _ _).mp hp'
      have hj : j < ys.length := by have := (List.getElem?_eq_some_iff.mp hv).1; rw [List.length_map] at this; exact this
      rw [List.getElem?_map, List.getElem?_eq_getElem hj] at hv
      obtain rfl : V.int ys[j] = v := Option.some.inj hv
      have s5 := same_upd hpt (.tup [V.int j, V.int ys[j]])
      k_units
      refine ⟨_, SqT.of upd_same, rfl, ?_⟩
      have eij : (l : Int) + (j : Int) = ((l + j : Nat) : Int) := rfl
      (iterate 3 (k_units; (try simp only [eij])); k_units)
      have hiz : l + j < zs.length := by omega
      have hz5 := s5 _ _ hz
      refine ⟨_, SqL.of hz5, _, at_int hiz, (ba _ (List.getElem_mem hi)).fits (bb _ (List.getElem_mem hj)) (by decide), _, rfl, _, hz5, l + j, ixN_nat (by rw [List.length_map]; exact hiz), (hPw _ _ _).mpr ⟨zs.set (l + j) (zs[l + j] + xs[l] * ys[j]), _, _, rfl, by rw [upd_same, map_set], by rw [List.length_set]; exact lz, fun t => ?_, (sz.trans s5).more hn0⟩⟩
      rw [co_set _ _ _ _ hiz]
      by_cases e : t = l + j
      · subst e
        have := cz' (l + j)
        rw [if_neg (show ¬ (l ≤ l + j ∧ l + j < l + j) by omega), co_lt hiz] at this
        rw [if_pos (show l + j = l + j from rfl), if_pos (show l ≤ l + j ∧ l + j < l + (j + 1) by omega), show l + j - l = j by omega, co_lt hj]; omega
      · rw [if_neg e, cz' t]
        by_cases h3 : l ≤ t ∧ t < l + j
        · rw [if_pos h3, if_pos (show l ≤ t ∧ t < l + (j + 1) by omega)]
        · rw [if_neg h3, if_neg (show ¬ (l ≤ t ∧ t < l + (j + 1)) by omega)]
    · intro σ H' hp'
      obtain ⟨zs, r3, r4, rfl, hz, lz, cz', sz⟩ := (hPw _ _ _).mp hp'
      rw [List.length_map] at cz'
      refine (hPv _ _ _).mpr ⟨zs, _, _, _, _, rfl, hz, lz, fun t => ?_, sz⟩
      rw [cz' t]
      have e : cv xs ys (l + 1) t = cv xs ys l t + co xs l * cz ys t l := rfl
      rw [e, co_lt hi]
      unfold cz
      by_cases h1 : t + 1 < xs.length + ys.length
      · rw [if_pos h1, if_pos h1]
        by_cases h2 : l ≤ t
        · rw [if_pos h2]
          by_cases h3 : t < l + ys.length
          · rw [if_pos ⟨h2, h3⟩]
          · rw [if_neg (by omega), co_ge (xs := ys) (by omega), Int.mul_zero]
        · rw [if_neg (by omega), if_neg h2, Int.mul_zero]
      · rw [if_neg h1, if_neg h1, if_neg (by omega)]; rfl
  · intro σ H' hp'
    obtain ⟨zs, r1, r2, r3, r4, rfl, hz, lz, cz', sz⟩ := (hPv _ _ _).mp hp'
    rw [List.length_map] at cz'
    k_units
    refine ⟨A0, zs, rfl, SqL.of hz, by omega, fun r H'' s'' hr'' h'' => q r H'' (sz.trans s'') (sz.free hr'') ?_⟩
    rw [h'', mul_eq xs ys zs cz']
def spMulF (K : PySem.W.Frag) : Sp := fun vs H Q _ => ∃ (p q : Addr) (f g : Int × Int), vs = [.ref p, .ref q] ∧ SqT K H p [.int f.1, .int f.2] ∧ SqT K H q [.int g.1, .int g.2] ∧ Frc f ∧ 1 ≤ g.2 ∧ Bd 20000 f.1 ∧ Bd 2500 f.2 ∧ Bd 200 g.1 ∧ Bd 200 g.2 ∧ mkT H Q (scl g f).1 (scl g f).2
theorem ok_multiplied {P : Program} {w : World} {K : PySem.W.Frag} {mg : Str → Option Value} {base : Heap} (T : Tx K mg) : FnOk P w K mg base CX0 3 T.a_multiplied T.fd_multiplied ["one", "other"] (spMulF K) := by
  refine T.F_multiplied.ok sc_multiplied (fun vs H Q E h => ?_) (fun cdv A outer s H vs Q E hr h => ?_)
  · obtain ⟨p, q, f, g, rfl, _⟩ := h
    rfl
  obtain ⟨p, q, f, g, rfl, hp, hq, F, g1, b1, b2, b3, b4, z⟩ := h
  refine ⟨_, ((pss_one (ps_ret (pe_call (FnOk.mono (ok_ratio T) (by decide)) hr rfl T.m_ratio T.F_ratio.kp T.b_ratio .nil passF (pa_cons (pe_op op_mulZ (pe_ix ix_tup (pv 0) pe_int (fun _ _ => rfl)) (pe_ix ix_tup (pv 1) pe_int (fun _ _ => rfl))) (pa_cons (pe_op op_mulZ (pe_ix ix_tup (pv 0) pe_int (fun _ _ => rfl)) (pe_ix ix_tup (pv 1) pe_int (fun _ _ => rfl))) pa_nil)))))), ?_⟩
  k_units
  have pos := one_le_mul F.1 g1
  refine ⟨_, hp, _, rfl, _, hq, _, rfl, _, rfl, _, rfl, b1.fits b3 (by decide), _, hp, _, rfl, _, hq, _, rfl, _, rfl, _, rfl, b2.fits b4 (by decide), ?_⟩
  refine ⟨_, _, rfl, (b2.mul b4).mono (by decide), .inl ⟨by omega, fun x y y1 y2 y3 _ _ => ?_⟩⟩
  have e : (x, y) = scl g f := low_uniq ⟨y1, y2⟩ (by omega) y3
  rw [← e] at z; exact z
theorem cl_tl {K : PySem.W.Frag} {a : Addr} {as : List Addr} {fs : List (Int × Int)} {fv : List (Nat × Str)} {te : TE} {Q : VK} {σ : L2.St} {H1 : Hp} {D : Addr} (φ : Int × Int → Int × Int) (nD : H1 D = none) (hA : SqL K H1 a (as.map V.ref)) (hT : TH H1 as fs) (hl : fs.length ≤ 900)
    (hs : ∀ (b : Addr) (f : Int × Int) (Hx : Hp) (R : VK), f ∈ fs → Same H1 Hx → Hx b = some (.tup [.int f.1, .int f.2]) → mkT Hx R (φ f).1 (φ f).2 → te (bst fv σ (some (V.ref b))) Hx R)
    (he : ∀ (bs : List Addr) (H' : Hp), Same H1 H' → H' D = some (.lst (bs.map V.ref)) → TH H' bs (fs.map φ) → Q (.ref D) H') : CLoop (Itl K a) fv te Q σ H1 D := by
  obtain ⟨Pc, hPc⟩ : ∃ Pc : Nat → Hp → Prop, ∀ j Hx, Pc j Hx ↔ ∃ bs : List Addr, Hx D = some (.lst (bs.map V.ref)) ∧ TH Hx bs ((fs.map φ).take j) ∧ Same H1 Hx := ⟨_, fun _ _ => Iff.rfl⟩
  refine cl_list (xs := as.map V.ref) Pc ((hPc _ _).mpr ⟨[], upd_same, TH.nil _, same_upd nD _⟩) (fun i Hx _ z => by obtain ⟨_, _, _, z⟩ := (hPc i Hx).mp z; exact z.seq hA) ?_ ?_
  · intro j v Hx hv hc
    obtain ⟨bs, k1, k2, k3⟩ := (hPc _ _).mp hc
    rw [List.getElem?_map] at hv
    obtain ⟨b, hb, rfl⟩ := Option.map_eq_some_iff.mp hv
    have hj := (List.getElem?_eq_some_iff.mp hb).1
    have hj2 : j < fs.length := by have := hT.len; omega
    have hg := k3 _ _ (hT.get j b fs[j] hb (List.getElem?_eq_getElem hj2))
    have lbs : bs.length ≤ 900 := by rw [k2.len, List.length_take, List.length_map]; omega
    refine hs b fs[j] Hx _ (List.getElem_mem _) k3 hg fun r nr => ?_
    have ur := same_upd nr (.tup [V.int (φ fs[j]).1, V.int (φ fs[j]).2])
    have et : (fs.map φ).take (j + 1) = (fs.map φ).take j ++ [φ fs[j]] := by
      rw [← List.take_append_getElem (by rw [List.length_map]; exact hj2), List.getElem_map]
    refine ⟨_, ur _ _ k1, by rw [List.length_map]; exact small1000 (by omega), (hPc _ _).mpr ⟨bs ++ [r], by rw [upd_same]; simp, ?_, (k3.trans ur).more nD⟩⟩
    rw [et]
    exact TH.upd (TH.snoc (k2.same ur) upd_same) (ur _ _ k1)
  · intro H' hc
    obtain ⟨bs, k1, k2, k3⟩ := (hPc _ _).mp hc
    rw [List.length_map, hT.len, List.take_of_length_le (by rw [List.length_map]; exact Nat.le_refl _)] at k2
    exact he bs H' k3 k1 k2
theorem cl_rngT {lo : Int} {n : Nat} {fv : List (Nat × Str)} {te : TE} {Q : VK} {σ : L2.St} {H1 : Hp} {D : Addr} (ψ : Nat → Int × Int) (nD : H1 D = none) (hl : n ≤ 900)
    (hs : ∀ (i : Nat) (Hx : Hp) (R : VK), i < n → Same H1 Hx → mkT Hx R (ψ i).1 (ψ i).2 → te (bst fv σ (some (.int (lo + i)))) Hx R)
    (he : ∀ (bs : List Addr) (H' : Hp), Same H1 H' → H' D = some (.lst (bs.map V.ref)) → TH H' bs ((List.range n).map ψ) → Q (.ref D) H') : CLoop (Itr lo n) fv te Q σ H1 D := by
  obtain ⟨Pc, hPc⟩ : ∃ Pc : Nat → Hp → Prop, ∀ j Hx, Pc j Hx ↔ ∃ bs : List Addr, Hx D = some (.lst (bs.map V.ref)) ∧ TH Hx bs ((List.range j).map ψ) ∧ Same H1 Hx := ⟨_, fun _ _ => Iff.rfl⟩
  refine cl_range Pc ((hPc _ _).mpr ⟨[], upd_same, TH.nil _, same_upd nD _⟩) ?_ ?_
  · intro j Hx hj hc
    obtain ⟨bs, k1, k2, k3⟩ := (hPc _ _).mp hc
    have lbs : bs.length ≤ 900 := by rw [k2.len, List.length_map, List.length_range]; omega
    refine hs j Hx _ hj k3 fun r nr => ?_
    have ur := same_upd nr (.tup [V.int (ψ j).1, V.int (ψ j).2])
    refine ⟨_, ur _ _ k1, by rw [List.length_map]; exact small1000 (by omega), (hPc _ _).mpr ⟨bs ++ [r], by rw [upd_same]; simp, ?_, (k3.trans ur).more nD⟩⟩
    rw [List.range_succ, List.map_append]
    exact TH.upd (TH.snoc (k2.same ur) upd_same) (ur _ _ k1)
  · intro H' hc
    obtain ⟨bs, k1, k2, k3⟩ := (hPc _ _).mp hc
    exact he bs H' k3 k1 k2
theorem cl_ones {K : PySem.W.Frag} {a : Addr} {xs : List Int} {fv : List (Nat × Str)} {te : TE} {Q : VK} {σ : L2.St} {H1 : Hp} {D : Addr} (nD : H1 D = none) (hA : SqL K H1 a (xs.map V.int)) (hl : xs.length ≤ 900)
    (hs : ∀ (x : Int) (Hx : Hp) (R : VK), Same H1 Hx → newL Hx R [.int x] → te (bst fv σ (some (V.int x))) Hx R)
    (he : ∀ (bs : List Addr) (H' : Hp), Same H1 H' → H' D = some (.lst (bs.map V.ref)) → LH H' bs (xs.map fun x => [x]) → Q (.ref D) H') : CLoop (Itl K a) fv te Q σ H1 D := by
  obtain ⟨Pc, hPc⟩ : ∃ Pc : Nat → Hp → Prop, ∀ j Hx, Pc j Hx ↔ ∃ bs : List Addr, Hx D = some (.lst (bs.map V.ref)) ∧ LH Hx bs ((xs.map fun x => [x]).take j) ∧ D ∉ bs ∧ Same H1 Hx := ⟨_, fun _ _ => Iff.rfl⟩
  refine cl_list (xs := xs.map V.int) Pc ((hPc _ _).mpr ⟨[], upd_same, LH.nil _, by simp, same_upd nD _⟩) (fun i Hx _ z => by obtain ⟨_, _, _, _, z⟩ := (hPc i Hx).mp z; exact z.seq hA) ?_ ?_
  · intro j v Hx hv hc
    obtain ⟨bs, k1, k2, k4, k3⟩ := (hPc _ _).mp hc
    rw [List.getElem?_map] at hv
    obtain ⟨b, hb, rfl⟩ := Option.map_eq_some_iff.mp hv
    obtain ⟨hj, hb2⟩ := List.getElem?_eq_some_iff.mp hb
    have lbs : bs.length ≤ 900 := by rw [k2.len, List.length_take, List.length_map]; omega
    refine hs b Hx _ k3 fun r H2 s2 nr er => ?_
    have et : (xs.map fun x => [x]).take (j + 1) = (xs.map fun x => [x]).take j ++ [[b]] := by
      rw [← List.take_append_getElem (by rw [List.length_map]; exact hj), List.getElem_map, hb2]
    have nrD : r ≠ D := fun z => by rw [z, k1] at nr; cases nr
    have m1 : D ∉ bs ++ [r] := fun z => by
      rcases List.mem_append.mp z with z | z
      · exact k4 z
      · exact nrD (List.mem_singleton.mp z).symm
    refine ⟨_, s2 _ _ k1, by rw [List.length_map]; exact small1000 (by omega), (hPc _ _).mpr ⟨bs ++ [r], by rw [upd_same]; simp, ?_, m1, (k3.trans s2).more nD⟩⟩
    rw [et]
    exact ((k2.same s2).snoc er).upd m1
  · intro H' hc
    obtain ⟨bs, k1, k2, _, k3⟩ := (hPc _ _).mp hc
    rw [List.length_map, List.take_of_length_le (by rw [List.length_map]; exact Nat.le_refl _)] at k2
    exact he bs H' k3 k1 k2
def spScaled (K : PySem.W.Frag) (C : Addr) : Sp := fun vs H Q _ => ∃ (x dx R L q : Addr) (as cs : List Addr) (ps : List (List Int)) (ff : List (Int × Int)) (g : Int × Int) (m k : Nat), vs = [.ref x, .ref q] ∧ RowAt C H x dx R L as cs ps ff m k ∧ SqT K H q [.int g.1, .int g.2] ∧ 1 ≤ g.2 ∧ Bd 200 g.1 ∧ Bd 200 g.2 ∧ (∀ f ∈ (carryF ps ff k).take (ps.length - 1 + m), Frc f ∧ Bd 20000 f.1 ∧ Bd 2500 f.2) ∧ Cr ps (((carryF ps ff k).take (ps.length - 1 + m)).map (scl g)) m ∧
  ∀ (x' dx' R' L' : Addr) (as' cs' : List Addr) (H' : Hp), Same H H' → H R' = none → H L' = none → (∀ b ∈ as', H b = none) → RowAt C H' x' dx' R' L' as' cs' ps (((carryF ps ff k).take (ps.length - 1 + m)).map (scl g)) m 0 → Q (.ref x') H'
theorem ok_row_scaled {P : Program} {w : World} {K : PySem.W.Frag} {mg : Str → Option Value} {base : Heap} (T : Tx K mg) : FnOk P w K mg base CX0 10 T.a_row_scaled T.fd_row_scaled ["one", "fraction"] (spScaled K T.c_Row) := by
  refine T.F_row_scaled.ok sc_row_scaled (fun vs H Q E h => ?_) (fun cdv A outer s H vs Q E hr h => ?_)
  · obtain ⟨x, dx, R, L, q, as, cs, ps, ff, g, m, k, rfl, _⟩ := h
    rfl
  obtain ⟨x, dx, R, L, q, as, cs, ps, ff, g, m, k, rfl, rw_, hq, g1, b1, b2, hf, Cc, z⟩ := h
  refine ⟨_, ((pss_cons (ps_set (i := 2) sc_row_scaled.nd rfl (Or.inl rfl) (pe_meth0 (pv 0) T.cl_Row T.me_Row_told (FnOk.mono (ok_Row_told T) (by decide)) hr T.b_Row_told .nil pass0))
    (pss_one (ps_ret (pe_make T.mk_Row (FnOk.mono (ok_Row___init__ T) (by decide)) hr rfl T.mc_Row T.b_Row___init__ .nil pass0 (pa_cons (pe_ix ix_tup (pv 2) pe_int (fun _ _ => rfl)) (pa_cons (pe_lcomp rfl (blkok rfl (sub_cons rfl sub_nil) (fv_cons 1 "fraction" (by decide) rfl (Or.inl rfl) (Or.inl rfl) ⟨_, rfl⟩ fv_nil)) (pi_list (pe_ix ix_tup (pv 2) pe_int (fun _ _ => rfl))) (fun _ _ _ _ => (pe_call (FnOk.mono (ok_multiplied T) (by decide)) hr rfl T.m_multiplied T.F_multiplied.kp T.b_multiplied .nil pass0 (pa_cons (pv 0) (pa_cons (pv 1) pa_nil))))) pa_nil))))))), ?_⟩
  dsimp only [a_seq]
  k_typeOf
  refine ⟨dx, _, rw_.hx, rfl, x, dx, R, L, as, cs, ps, ff, m, k, rfl, rw_.hx, rw_.hR, rw_.hL, rw_.hK, rw_.hT, rw_.l4, rw_.c, fun t A1 B1 as1 cs1 H1 s1 nA nB nas nAa nBa nAB nd eA la eB tb et => ?_⟩
  dsimp only [a_seq]
  k_typeOf
  refine ⟨_, SqT.of et, _, rfl, _, SqT.of et, _, rfl, B1, rfl, ⟨_, SqL.of eB⟩, fun D nD => cl_tl (scl g) nD (SqL.of eB) tb (by rw [List.length_take, carry_len]; have := rw_.l4; have := rw_.c.l6; have := rw_.c.m60; omega) (fun b f Hx R' hf' sx hb hR => ?_) fun bs H2 s2 eD thD => ?_⟩
  · (iterate 3 (k_units; (try simp only [bst, Option.getD_some])); k_units)
    obtain ⟨F, f1, f2⟩ := hf f hf'
    exact ⟨b, q, f, g, rfl, SqT.of hb, (s1.trans sx).seqT hq, F, g1, f1, f2, b1, b2, hR⟩
  intro x9 dx9 nx9 nd9 ne9
  have sm9 := same_make (C := T.c_Row) nx9 nd9 ne9
  have l4m : (((carryF ps ff k).take (ps.length - 1 + m)).map (scl g)).length ≤ 480 := by rw [List.length_map, List.length_take]; have := rw_.c.l6; have := rw_.c.m60; omega
  refine ⟨x9, dx9, A1, D, as1, bs, ps, _, m, rfl, upd_same, SqL.of (sm9 _ _ (s2 _ _ eA)), ((la.same s2).same sm9).ll, SqL.of (sm9 _ _ eD), thD.same sm9, l4m, Cc, fun R9 L9 as9 H3 kp9 nR9 nL9 nRL9 nas9 nRa9 nin9 _ hx9 hR9 hL9 hK9 => ⟨rfl, ?_⟩⟩
  obtain ⟨s3, row9, nR9', nL9', nas9'⟩ := row_made nx9 nd9 ne9 kp9 nR9 nL9 nas9 nRL9 nin9 hx9 hR9 hL9 hK9 thD l4m Cc
  have s02 := s1.trans s2
  exact z x9 dx9 R9 L9 as9 bs H3 (s02.trans s3) (s02.free nR9') (s02.free nL9') (fun b hb => s02.free (nas9' b hb)) row9
theorem trim_nmlI {xs : List Int} (h : Nml xs) : trim xs = xs := nml_ext (trim_nml _) h (trim_co _)
def spAhead (K : PySem.W.Frag) (C : Addr) : Sp := fun vs H Q _ => ∃ (x dx R L : Addr) (as cs : List Addr) (ps : List (List Int)) (ff gs : List (Int × Int)) (m k b m' : Nat), vs = [.ref x, .int (b : Int)] ∧ RowAt C H x dx R L as cs ps ff m k ∧ b ≤ 60 ∧ (∀ p ∈ ps, p.length ≤ 3) ∧ (∀ i, ff.length + i ≤ gs.length → carryF ps ff i = gs.take (ff.length + i)) ∧ Good gs ∧ ff.length + k ≤ gs.length ∧ gs.length ≤ 100 ∧ b + (ps.length - 1 + m') ≤ gs.length ∧ Cr (ps.map (shiftL (b : Int))) ((gs.drop b).take (ps.length - 1 + m')) m' ∧
  ∀ (x' dx' R' L' : Addr) (as' cs' csx : List Addr) (k' : Nat) (H' : Hp), SameX [L] H H' → H R' = none → H L' = none → (∀ b ∈ as', H b = none) → RowAt C H' x dx R L as csx ps ff m k' → ff.length + k' ≤ gs.length → RowAt C H' x' dx' R' L' as' cs' (ps.map (shiftL (b : Int))) ((gs.drop b).take (ps.length - 1 + m')) m' 0 → Q (.ref x') H'
theorem ok_row_ahead {P : Program} {w : World} {K : PySem.W.Frag} {mg : Str → Option Value} {base : Heap} (T : Tx K mg) : FnOk P w K mg base CX0 10 T.a_row_ahead T.fd_row_ahead ["one", "by"] (spAhead K T.c_Row) := by
  refine T.F_row_ahead.ok sc_row_ahead (fun vs H Q E h => ?_) (fun cdv A outer s H vs Q E hr h => ?_)
  · obtain ⟨x, dx, R, L, as, cs, ps, ff, gs, m, k, b, m', rfl, _⟩ := h
    rfl
  obtain ⟨x, dx, R, L, as, cs, ps, ff, gs, m, k, b, m', rfl, rw_, b60, l3, hc, hg, hk, l100, hbm, Cc, z⟩ := h
  refine ⟨_, ((pss_cons (ps_if (PW.pt (pw_or (pt_cmpR op_lt (pv 1) pe_int (nomark _)) (pw_or1 (pt_cmpR op_gt (pv 1) (pe_glob (v := .int 60) rfl T.g_FARTHEST_AHEAD.2 ⟨_, rfl⟩) (nomark _))))) pss_never pss_nil)
    (pss_cons (ps_setC (i := 2) rfl (blkok rfl (sub_cons rfl sub_nil) (fv_cons 1 "by" (by decide) rfl (Or.inl rfl) (Or.inl rfl) ⟨_, rfl⟩ fv_nil)) (pi_list (pe_ix ix_tup (pe_meth0 (pv 0) T.cl_Row T.me_Row_told (FnOk.mono (ok_Row_told T) (by decide)) hr T.b_Row_told .nil pass0) pe_int (fun _ _ => rfl))) (fun _ _ _ _ => (pe_call (FnOk.mono (ok_shifted T) (by decide)) hr rfl T.m_shifted T.F_shifted.kp T.b_shifted .nil pass0 (pa_cons (pv 0) (pa_cons (pv 1) pa_nil)))) sc_row_ahead.nd rfl rfl)
    (pss_one (ps_ret (pe_make T.mk_Row (FnOk.mono (ok_Row___init__ T) (by decide)) hr rfl T.mc_Row T.b_Row___init__ .nil pass0 (pa_cons (pv 2) (pa_cons (pe_lcomp rfl (blkok rfl (sub_cons rfl (sub_cons rfl sub_nil)) (fv_cons 0 "one" (by decide) rfl (Or.inl rfl) (Or.inl rfl) ⟨_, rfl⟩ (fv_cons 1 "by" (by decide) rfl (Or.inl rfl) (Or.inl rfl) ⟨_, rfl⟩ fv_nil))) (pi_range1 rfl T.z_range (pa_cons (pe_call (FnOk.mono (ok_need_of T) (by decide)) hr rfl T.m_need_of T.F_need_of.kp T.b_need_of .nil passF (pa_cons (pv 2) pa_nil)) pa_nil)) (fun _ _ _ _ => (pe_meth (pv 1) T.cl_Row T.me_Row_at (FnOk.mono (ok_Row_at T) (by decide)) hr T.b_Row_at .nil passF (pa_cons (pe_op op_add (pv 0) (pv 2)) pa_nil)))) pa_nil)))))))), ?_⟩
  dsimp only [a_seq]
  k_typeOf
  rw [if_neg (by omega), if_neg (by omega)]
  dsimp only [a_seq]
  k_typeOf
  have l6 := rw_.c.l6
  refine ⟨dx, _, rw_.hx, rfl, x, dx, R, L, as, cs, ps, ff, m, k, rfl, rw_.hx, rw_.hR, rw_.hL, rw_.hK, rw_.hT, rw_.l4, rw_.c, fun t A1 B1 as1 cs1 H1 s1 nA nB nas nAa nBa nAB nd eA la eB tb et => ?_⟩
  refine ⟨t, rfl, _, SqT.of et, _, rfl, A1, rfl, ⟨_, SqL.of eA⟩, fun D nD => cl_ll nD (SqL.of eA) la.ll (ds := ps.map (shiftL (b : Int))) (by simp) (by omega) (fun i b' p d Hx R' hp hd sx hB hR => ?_) fun F rb H2 s2 nF eF lhr nrb Frb ndrb => ?_⟩
  · have e : d = shiftL (b : Int) p := by rw [List.getElem?_map, hp] at hd; exact (Option.some.inj hd).symm
    have hpm := List.mem_of_getElem? hp
    have nm := shift_nml (b := (b : Int)) (rw_.c.I.2.2 p hpm)
    (iterate 3 (k_units; (try simp only [bst, Option.getD_some])); k_units)
    refine ⟨b', p, (b : Int), 200, 7, rfl, hB, (rw_.c.b p hpm).1, (rw_.c.b p hpm).2, Bd.of_lt (m := 61) (by omega) (by decide), by decide, ?_⟩
    rw [trim_nmlI nm, ← e]; exact hR
  have r2 := rw_.same (s1.trans s2)
  have s02 := s1.trans s2
  clear nA nB nas nAa nBa nAB nd eA la eB tb et
  k_units
  have lpm : (ps.map (shiftL (b : Int))).length = ps.length := List.length_map _
  have hlast : (ps.map (shiftL (b : Int))).getLast? = some ((ps.map (shiftL (b : Int))).getLastD []) := by rw [List.getLastD_eq_getLast?, List.getLast?_eq_some_getLast Cc.I.1]; rfl
  have bl := Cc.b _ (List.mem_of_getLast? hlast)
  have m60 := Cc.m60
  refine ⟨F, rb, ps.map (shiftL (b : Int)), rfl, SqL.of eF, lhr.ll, by omega, .inr ⟨Cc.I, _, hlast, bl.1, bl.2, .inl ⟨m', Cc.m60, Cc.c1, Cc.c2, fun H3 s3 => ?_⟩⟩⟩
  rw [lpm]
  have lp := List.length_pos_iff.mpr rw_.c.I.1
  obtain ⟨n, hn, hn2⟩ : ∃ n : Nat, (ps.length : Int) - 1 + (m' : Int) = (n : Int) ∧ n = ps.length - 1 + m' := ⟨ps.length - 1 + m', by omega, rfl⟩
  rw [← hn2] at hbm Cc z
  refine ⟨(n : Int), by rw [← hn], by omega, by omega, fun D2 nD2 => ?_⟩
  rw [Int.toNat_natCast]
  have r3 := r2.same s3
  have s03 := s02.trans s3
  have eF3 := s3 _ _ eF
  have lhr3 := lhr.same s3
  obtain ⟨Pc, hPc⟩ : ∃ Pc : Nat → Hp → Prop, ∀ j Hx, Pc j Hx ↔ ∃ (bs2 cs2 : List Addr) (k2 : Nat), Hx D2 = some (.lst (bs2.map V.ref)) ∧ TH Hx bs2 ((gs.drop b).take j) ∧ RowAt T.c_Row Hx x dx R L as cs2 ps ff m k2 ∧ ff.length + k2 ≤ gs.length ∧ SameX [L] H3 Hx := ⟨_, fun _ _ => Iff.rfl⟩
  have uD := same_upd nD2 (.lst [])
  have nDL : D2 ≠ L := fun z => by rw [z, r3.hK] at nD2; cases nD2
  have nDR : R ≠ D2 := fun z => by rw [← z, r3.hR] at nD2; cases nD2
  have nDa : D2 ∉ as := r3.hL.notin nD2
  refine cl_range Pc ((hPc _ _).mpr ⟨[], cs, k, upd_same, TH.nil _, r3.same uD, hk, same_x uD⟩) ?_ ?_
  · intro j Hx hj hcc
    obtain ⟨bs2, cs2, k2, d1, d2, d3, d4, d5⟩ := (hPc _ _).mp hcc
    have e0 : (0 : Int) + (j : Int) + (b : Int) = ((j + b : Nat) : Int) := by omega
    (iterate 3 (k_units; (try simp only [bst, Option.getD_some, e0])); k_units)
    refine ⟨dx, _, d3.hx, rfl, x, dx, R, L, ((j + b : Nat) : Int), as, cs2, ps, ff, m, k2, rfl, d3.hx, d3.hR, d3.hL, d3.nRL, d3.nin, d3.hK, d3.hT, d3.l4, d3.c, .inr ⟨j + b, rfl, by omega, fun i hi => ?_, fun r cs3 k3 f H' kk km kp eL th hf hcs er => ?_⟩⟩
    · rw [hc i (by omega)]
      exact hg.sub fun g hg' => List.mem_of_mem_take hg'
    have hk' : ff.length + k3 ≤ gs.length := by omega
    have hfj : gs[j + b]? = some f := by
      rw [hc k3 hk'] at hf
      have hl := (List.getElem?_eq_some_iff.mp hf).1
      rw [List.length_take] at hl
      rw [List.getElem?_take_of_lt (by omega)] at hf; exact hf
    have sL : SameX [L] Hx H' := fun b o hb e => kp b o (fun z => hb (by simp [z])) e
    have lL : Lsts [L] Hx := fun a ha => by rw [List.mem_singleton.mp ha]; exact ⟨_, d3.hK⟩
    have eD' := kp _ _ nDL d1
    have lD : Lsts [D2] H' := fun a ha => by rw [List.mem_singleton.mp ha]; exact ⟨_, eD'⟩
    have sD : SameX [D2] H' (upd H' D2 (.lst (bs2.map V.ref ++ [V.ref r]))) := fun b o hb e => by rw [upd_ne (fun z => hb (by simp [z]))]; exact e
    have r4 := d3.on sL lL (fun z => List.mem_singleton.mp z) (fun b _ z => List.mem_singleton.mp z) eL th
    have lb2 : bs2.length ≤ 100 := by rw [d2.len, List.length_take, List.length_drop]; omega
    have hj2 := (List.getElem?_eq_some_iff.mp hfj).1
    have hdj : (gs.drop b)[j]? = some f := by rw [List.getElem?_drop, Nat.add_comm b j]; exact hfj
    obtain ⟨hj3, hj4⟩ := List.getElem?_eq_some_iff.mp hdj
    have et : (gs.drop b).take (j + 1) = (gs.drop b).take j ++ [f] := by
      rw [← List.take_append_getElem hj3, hj4]
    refine ⟨_, eD', by rw [List.length_map]; exact small1000 (by omega), (hPc _ _).mpr ⟨bs2 ++ [r], cs3, k3, by rw [upd_same]; simp, ?_, r4.keep sD lD (fun z => nDR (List.mem_singleton.mp z)) (fun b hb z => nDa (by rw [← List.mem_singleton.mp z]; exact hb)) (fun z => nDL (List.mem_singleton.mp z).symm), hk', fun b o hb e => ?_⟩⟩
    · rw [et]
      exact TH.upd (TH.snoc (d2.kept sL lL) er) eD'
    · rw [upd_ne (fun z => by rw [z, nD2] at e; cases e)]
      exact (d5.trans sL) b o hb e
  intro H4 hcc
  obtain ⟨bs2, cs2, k2, d1, d2, d3, d4, d5⟩ := (hPc _ _).mp hcc
  intro x9 dx9 nx9 nd9 ne9
  have nLF : F ≠ L := fun z => by rw [z, s1 _ _ rw_.hK] at nF; cases nF
  have nLr : ∀ c ∈ rb, c ∉ [L] := fun c hc' hz => by
    have e := nrb c hc'
    rw [List.mem_singleton.mp hz, s1 _ _ rw_.hK] at e; cases e
  have eF4 := d5 _ _ (fun hz => nLF (List.mem_singleton.mp hz)) eF3
  have lhr4 := lhr3.kept d5 nLr
  have sm9 := same_make (C := T.c_Row) nx9 nd9 ne9
  have l4m : ((gs.drop b).take n).length ≤ 480 := by rw [List.length_take, List.length_drop]; omega
  refine ⟨x9, dx9, F, D2, rb, bs2, ps.map (shiftL (b : Int)), _, m', rfl, upd_same, SqL.of (sm9 _ _ eF4), (lhr4.same sm9).ll, SqL.of (sm9 _ _ d1), d2.same sm9, l4m, Cc, fun R9 L9 as9 H5 kp9 nR9 nL9 nRL9 nas9 nRa9 nin9 _ hx9 hR9 hL9 hK9 => ⟨rfl, ?_⟩⟩
  obtain ⟨s5, row9, nR9', nL9', nas9'⟩ := row_made nx9 nd9 ne9 kp9 nR9 nL9 nas9 nRL9 nin9 hx9 hR9 hL9 hK9 d2 l4m Cc
  have x04 : SameX [L] H H4 := (same_x s03).trans d5
  have fr : ∀ c, H4 c = none → H c = none := fun c hc' => by
    cases hz : H c with
    | none => rfl
    | some o =>
      by_cases hy : c = L
      · rw [hy, d3.hK] at hc'; cases hc'
      · rw [x04 c o (fun hw => hy (List.mem_singleton.mp hw)) hz] at hc'; cases hc'
  exact z x9 dx9 R9 L9 as9 bs2 cs2 k2 H5 (x04.trans (same_x s5)) (fr _ nR9') (fr _ nL9') (fun c hc' => fr _ (nas9' c hc')) (d3.same s5) d4 row9
theorem cr_poly {xs : List Int} {k : Nat} (hl : xs.length = k) (h5 : k ≤ 5) (hb : ∀ x ∈ xs, Bd 110 x) : Cr ((stp k).map fun c => [c]) (pvs xs k) 0 ∧ Good (pvs xs 13) := by
  have gd : ∀ N, N ≤ 13 → Good (pvs xs N) := fun N hN => by
    refine ⟨fun f hf => ?_, 1, by decide, Bd.one (by decide), fun f hf => ?_⟩
    · unfold pvs at hf
      obtain ⟨n, hn, rfl⟩ := List.mem_map.mp hf
      have := List.mem_range.mp hn
      exact ⟨⟨Int.le_refl 1, by simp⟩, (val_bd (k := 110) (l := 4) (Bd.of_lt (m := 13) (by omega) (by decide)) xs hb).mono (by omega)⟩
    · unfold pvs at hf
      obtain ⟨n, hn, rfl⟩ := List.mem_map.mp hf
      exact Int.dvd_refl _
  have last : ∃ l : List (List Int), ((stp k).map fun c => [c]) = l ++ [[1]] := by
    match k, h5 with
    | 0, _ => exact ⟨[], rfl⟩
    | 1, _ => exact ⟨[[-1]], rfl⟩
    | 2, _ => exact ⟨[[1], [-2]], rfl⟩
    | 3, _ => exact ⟨[[-1], [3], [-3]], rfl⟩
    | 4, _ => exact ⟨[[1], [-4], [6], [-4]], rfl⟩
    | 5, _ => exact ⟨[[-1], [5], [-10], [10], [-5]], rfl⟩
  have all : ∀ c ∈ stp k, c ≠ 0 ∧ c.natAbs < 32 := by
    match k, h5 with
    | 0, _ => decide
    | 1, _ => decide
    | 2, _ => decide
    | 3, _ => decide
    | 4, _ => decide
    | 5, _ => decide
  obtain ⟨l, hl'⟩ := last
  have eL : ((stp k).map fun c => [c]).getLast? = some [1] := by rw [hl', List.getLast?_concat]
  have eD : ((stp k).map fun c => [c]).getLastD [] = [1] := by rw [List.getLastD_eq_getLast?, eL]; rfl
  have lk := stp_len h5
  refine ⟨⟨⟨(fun z => by rw [z] at eL; cases eL), fun p hp => ?_, fun p hp => ?_⟩, by rw [List.length_map]; omega, fun p hp => ?_, by omega, ?_, fun j hj => by omega, by rw [List.length_map, pvs_len]; omega, gd k (by omega), fun n hn => ?_⟩, gd 13 (Nat.le_refl _)⟩
  · rw [eL] at hp; rw [← Option.some.inj hp]; simp
  · obtain ⟨c, hc, rfl⟩ := List.mem_map.mp hp
    exact nml_of_last (.inr (all c hc).1)
  · obtain ⟨c, hc, rfl⟩ := List.mem_map.mp hp
    exact ⟨by simp, fun v hv => by rw [List.mem_singleton.mp hv]; exact Bd.of_lt (m := 32) (all c hc).2 (by decide)⟩
  · rw [eD]; exact clr_one
  · rw [List.length_map, pvs_len, lk] at hn; omega
def spPolyRow (K : PySem.W.Frag) (C : Addr) : Sp := fun vs H Q _ => ∃ (p : Addr) (xs : List Int) (k : Nat), vs = [.ref p] ∧ SqL K H p (xs.map V.int) ∧ xs.length = k ∧ k ≤ 5 ∧ (∀ x ∈ xs, Bd 110 x) ∧
  ∀ (x' dx' R' L' : Addr) (as' cs' : List Addr) (H' : Hp), Same H H' → H R' = none → H L' = none → (∀ b ∈ as', H b = none) → RowAt C H' x' dx' R' L' as' cs' ((stp k).map fun c => [c]) (pvs xs k) 0 0 → Q (.ref x') H'
theorem ok_poly_row {P : Program} {w : World} {K : PySem.W.Frag} {mg : Str → Option Value} {base : Heap} (T : Tx K mg) : FnOk P w K mg base CX0 10 T.a_poly_row T.fd_poly_row ["poly"] (spPolyRow K T.c_Row) := by
  refine T.F_poly_row.ok sc_poly_row (fun vs H Q E h => ?_) (fun cdv A outer s H vs Q E hr h => ?_)
  · obtain ⟨p, xs, k, rfl, _⟩ := h
    rfl
  obtain ⟨p, xs, k, rfl, hp, hl, h5, hb, z⟩ := h
  obtain ⟨C0, _⟩ := cr_poly hl h5 hb
  refine ⟨_, ((pss_cons (ps_if (pt_cmpR op_gt (pe_callB call_len_seq rfl T.z_len bt_len (pa_cons (pv 0) pa_nil)) (pe_glob (v := .int 5) rfl T.g_MOST_NUMBERS.2 ⟨_, rfl⟩) (nomark _)) pss_never pss_nil)
    (pss_cons (ps_set (i := 1) sc_poly_row.nd rfl (Or.inl rfl) (pe_lst (pa_cons pe_int pa_nil)))
    (pss_cons (ps_for PassesOwn.never rfl (pi_list (pv 0)) (pg_name (i := 2) sc_poly_row.nd rfl (Or.inl rfl)) (pss_one (ps_set (i := 1) sc_poly_row.nd rfl (Or.inl rfl) (pe_call (FnOk.mono (ok_poly_times T) (by decide)) hr rfl T.m_poly_times T.F_poly_times.kp T.b_poly_times .nil pass0 (pa_cons (pv 1) (pa_cons (pe_lst (pa_cons (pe_un un_neg pe_int) (pa_cons pe_int pa_nil))) pa_nil))))))
    (pss_one (ps_ret (pe_make T.mk_Row (FnOk.mono (ok_Row___init__ T) (by decide)) hr rfl T.mc_Row T.b_Row___init__ .nil pass0 (pa_cons (pe_lcomp rfl (blkok rfl sub_nil fv_nil) (pi_list (pv 1)) (fun _ _ _ _ => (pe_lst (pa_cons (pv 0) pa_nil)))) (pa_cons (pe_lcomp rfl (blkok rfl (sub_cons rfl sub_nil) (fv_cons 0 "poly" (by decide) rfl (Or.inl rfl) (Or.inl rfl) ⟨_, rfl⟩ fv_nil)) (pi_range1 rfl T.z_range (pa_cons (pe_callB call_len_seq rfl T.z_len bt_len (pa_cons (pv 0) pa_nil)) pa_nil)) (fun _ _ _ _ => (pe_tup (pa_cons (pe_call (FnOk.mono (ok_poly_value T) (by decide)) hr rfl T.m_poly_value T.F_poly_value.kp T.b_poly_value .nil pass0 (pa_cons (pv 1) (pa_cons (pv 0) pa_nil))) (pa_cons pe_int pa_nil))))) pa_nil))))))))), ?_⟩
  dsimp only [a_seq]
  k_typeOf
  refine ⟨_, .inl hp, ?_⟩
  rw [List.length_map, if_neg (by omega)]
  dsimp only [a_seq]
  k_typeOf
  refine ⟨by decide, fun S nS => ?_⟩
  have u1 := same_upd nS (.lst [V.int 1])
  have eS : upd H S (.lst [V.int 1]) S = some (.lst ((stp 0).map V.int)) := upd_same
  generalize upd H S (.lst [V.int 1]) = H1 at u1 eS ⊢
  dsimp only [a_seq]
  k_typeOf
  obtain ⟨Pv, hPv⟩ : ∃ Pv : Nat → L2.St → Hp → Prop, ∀ i σ H', Pv i σ H' ↔ ∃ (S : Addr) (r2 : Option V), σ = [some (V.ref p), some (V.ref S), r2] ∧ H' S = some (.lst ((stp i).map V.int)) ∧ Same H H' := ⟨_, fun _ _ _ => Iff.rfl⟩
  refine ⟨⟨_, u1.seq hp⟩, lp_list (xs := xs.map V.int) Pv ((hPv _ _ _).mpr ⟨S, none, rfl, eS, u1⟩) (fun i σ H' _ z => by obtain ⟨_, _, _, _, z⟩ := (hPv i σ H').mp z; exact z.seq hp) ?_ ?_⟩
  · intro i v σ H' hv hpv
    obtain ⟨S2, r2, rfl, eS2, s2⟩ := (hPv _ _ _).mp hpv
    have hi : i < k := by have := (List.getElem?_eq_some_iff.mp hv).1; rw [List.length_map] at this; omega
    k_units
    refine ⟨by decide, fun q nq => ?_⟩
    have uq := same_upd nq (.lst [V.int (-1), V.int 1])
    have bs : ∀ c ∈ stp i, Bd 60000 c := by
      have : ∀ c ∈ stp i, c.natAbs < 32 := by
        match i, (show i ≤ 5 by omega) with
        | 0, _ => decide
        | 1, _ => decide
        | 2, _ => decide
        | 3, _ => decide
        | 4, _ => decide
        | 5, _ => decide
      exact fun c hc => Nat.lt_of_lt_of_le (this c hc) (Nat.le_trans (by decide : 32 ≤ 2 ^ 5) (Nat.pow_le_pow_right (by decide) (by decide)))
    refine ⟨S2, q, stp i, [-1, 1], rfl, SqL.of (uq _ _ eS2), SqL.of upd_same, by rw [stp_len (by omega)]; omega, by decide, bs, fun c hc => ?_, fun S3 H3 s3 n3 e3 => ?_⟩
    · simp at hc
      rcases hc with rfl | rfl
      · exact (Bd.one (by decide)).neg
      · exact Bd.one (by decide)
    · rw [stp_mul (by omega)] at e3
      exact (hPv _ _ _).mpr ⟨S3, _, rfl, e3, s2.trans (uq.trans s3)⟩
  intro σ H2 hpv
  obtain ⟨S2, r2, rfl, eS2, s2⟩ := (hPv _ _ _).mp hpv
  rw [List.length_map, hl] at eS2
  clear hpv hPv Pv
  k_units
  have lk := stp_len h5
  refine ⟨⟨_, SqL.of eS2⟩, fun D nD => cl_ones nD (SqL.of eS2) (by omega) (fun x Hx R' sx hR => ?_) fun bs H3 s3 eD lh => ?_⟩
  · (iterate 3 (k_units; (try simp only [bst, Option.getD_some])); k_units)
    exact ⟨by decide, fun r nr => hR r _ (same_upd nr _) nr upd_same⟩
  have s03 := s2.trans s3
  refine ⟨_, .inl (s03.seq hp), ?_⟩
  rw [List.length_map, hl, Int.toNat_natCast]
  refine ⟨by omega, by omega, fun D2 nD2 => cl_rngT (fun n : Nat => (val (n : Int) xs, (1 : Int))) nD2 (by omega) (fun j Hx R' hj sx hR => ?_) fun bs2 H4 s4 eD2 th => ?_⟩
  · have e0 : (0 : Int) + (j : Int) = (j : Int) := Int.zero_add _
    (iterate 3 (k_units; (try simp only [bst, Option.getD_some, e0])); k_units)
    exact ⟨p, xs, (j : Int), 110, 4, rfl, (s03.trans sx).seq hp, by omega, hb, Bd.of_lt (m := 13) (by omega) (by decide), by decide, by decide, fun r nr => hR r nr⟩
  have th' : TH H4 bs2 (pvs xs k) := th
  intro x9 dx9 nx9 nd9 ne9
  have sm9 := same_make (C := T.c_Row) nx9 nd9 ne9
  have l4m : (pvs xs k).length ≤ 480 := by rw [pvs_len]; omega
  have lh4 := lh.same s4
  have eD4 := s4 _ _ eD
  refine ⟨x9, dx9, D, D2, bs, bs2, (stp k).map fun c => [c], pvs xs k, 0, rfl, upd_same, SqL.of (sm9 _ _ eD4), (lh4.same sm9).ll, SqL.of (sm9 _ _ eD2), th'.same sm9, l4m, C0, fun R9 L9 as9 H5 kp9 nR9 nL9 nRL9 nas9 nRa9 nin9 _ hx9 hR9 hL9 hK9 => ⟨rfl, ?_⟩⟩
  obtain ⟨s5, row9, nR9', nL9', nas9'⟩ := row_made nx9 nd9 ne9 kp9 nR9 nL9 nas9 nRL9 nin9 hx9 hR9 hL9 hK9 th' l4m C0
  have s04 := s03.trans s4
  exact z x9 dx9 R9 L9 as9 bs2 H5 (s04.trans s5) (s04.free nR9') (s04.free nL9') (fun b hb => s04.free (nas9' b hb)) row9
theorem cr_powr {f : Int × Int} (hf : Frc f) (b1 : Bd 110 f.1) (b2 : Bd 110 f.2) : Cr [trim [-f.1], [f.2]] [(1, 1)] 0 ∧ Good (pws f 9) := by
  have f1 := hf.1
  have bt : ∀ v ∈ trim [-f.1], Bd 200 v := in_co fun j => by
    rw [trim_co]
    exact co_in (P := fun v => Bd 200 v) (fun v hv => by rw [List.mem_singleton.mp hv]; exact b1.neg.mono (by decide)) (Bd.zero _) j
  have lt1 : (trim [-f.1]).length ≤ 1 := trim_len _
  have bp : ∀ (c : Int), Bd 110 c → ∀ n : Nat, Bd (110 * n + 1) (c ^ n) := fun c hc n => by
    induction n with
    | zero => rw [Int.pow_zero]; exact Bd.one (by decide)
    | succ n ih => rw [Int.pow_succ]; exact (ih.mul hc).mono (by omega)
  have cl : clr 0 [f.2] = true := os_sign (e := 1) (.inl rfl) (by show 0 < 1 * f.2; omega) (fun x hx => by rw [List.mem_singleton.mp hx]; omega)
  have g9 : Good (pws f 9) := by
    refine ⟨fun u hu => ?_, f.2 ^ 9, pwf_pos f1 9, (bp _ b2 9).mono (by decide), fun u hu => ?_⟩
    · unfold pws at hu
      obtain ⟨n, hn, rfl⟩ := List.mem_map.mp hu
      have := List.mem_range.mp hn
      exact ⟨pwf_frc hf n, (bp _ b1 n).mono (by omega)⟩
    · unfold pws at hu
      obtain ⟨n, hn, rfl⟩ := List.mem_map.mp hu
      have := List.mem_range.mp hn
      exact ⟨f.2 ^ (9 - n), by show f.2 ^ 9 = f.2 ^ n * f.2 ^ (9 - n); rw [← Int.pow_add]; congr 1; omega⟩
  have g1 : Good [((1 : Int), (1 : Int))] := ⟨fun u hu => by rw [List.mem_singleton.mp hu]; exact ⟨⟨Int.le_refl 1, by simp⟩, Bd.one (by decide)⟩, 1, by decide, Bd.one (by decide), fun u hu => by rw [List.mem_singleton.mp hu]; exact Int.dvd_refl _⟩
  refine ⟨⟨⟨by simp, fun p hp => ?_, fun p hp => ?_⟩, by simp, fun p hp => ?_, by omega, cl, fun j hj => by omega, by simp, g1, fun n hn => by simp at hn⟩, g9⟩
  · have : p = [f.2] := by simpa using hp.symm
    rw [this]; simp
  · simp at hp
    rcases hp with rfl | rfl
    · exact trim_nml _
    · exact nml_of_last (.inr (by show f.2 ≠ 0; omega))
  · simp at hp
    rcases hp with rfl | rfl
    · exact ⟨by omega, bt⟩
    · exact ⟨by simp, fun v hv => by rw [List.mem_singleton.mp hv]; exact b2.mono (by decide)⟩
def spPowRow (K : PySem.W.Frag) (C : Addr) : Sp := fun vs H Q _ => ∃ (q : Addr) (f : Int × Int), vs = [.ref q] ∧ SqT K H q [.int f.1, .int f.2] ∧ Frc f ∧ Bd 110 f.1 ∧ Bd 110 f.2 ∧
  ∀ (x' dx' R' L' : Addr) (as' cs' : List Addr) (H' : Hp), Same H H' → H R' = none → H L' = none → (∀ b ∈ as', H b = none) → RowAt C H' x' dx' R' L' as' cs' [trim [-f.1], [f.2]] [(1, 1)] 0 0 → Q (.ref x') H'
theorem ok_power_row {P : Program} {w : World} {K : PySem.W.Frag} {mg : Str → Option Value} {base : Heap} (T : Tx K mg) : FnOk P w K mg base CX0 10 T.a_power_row T.fd_power_row ["fraction"] (spPowRow K T.c_Row) := by
  refine T.F_power_row.ok sc_power_row (fun vs H Q E h => ?_) (fun cdv A outer s H vs Q E hr h => ?_)
  · obtain ⟨q, f, rfl, _⟩ := h
    rfl
  obtain ⟨q, f, rfl, hq, hf, b1, b2, z⟩ := h
  obtain ⟨C0, _⟩ := cr_powr hf b1 b2
  refine ⟨_, ((pss_one (ps_ret (pe_make T.mk_Row (FnOk.mono (ok_Row___init__ T) (by decide)) hr rfl T.mc_Row T.b_Row___init__ .nil pass0 (pa_cons (pe_lst (pa_cons (pe_call (FnOk.mono (ok_trimmed T) (by decide)) hr rfl T.m_trimmed T.F_trimmed.kp T.b_trimmed .nil pass0 (pa_cons (pe_lst (pa_cons (pe_un un_neg (pe_ix ix_tup (pv 0) pe_int (fun _ _ => rfl))) pa_nil)) pa_nil)) (pa_cons (pe_lst (pa_cons (pe_ix ix_tup (pv 0) pe_int (fun _ _ => rfl)) pa_nil)) pa_nil))) (pa_cons (pe_lst (pa_cons (pe_tup (pa_cons pe_int (pa_cons pe_int pa_nil))) pa_nil)) pa_nil)))))), ?_⟩
  k_units
  refine ⟨_, hq, _, rfl, _, rfl, by decide, fun p1 np1 => ?_⟩
  have u1 := same_upd np1 (.lst [V.int (-f.1)])
  refine ⟨p1, [-f.1], rfl, SqL.of upd_same, by simp, fun F1 H1 s1 nF1 eF1 => ⟨_, (u1.trans s1).seqT hq, _, rfl, by decide, fun p2 np2 => ⟨by decide, fun p3 np3 => ⟨by decide, fun p4 np4 => ⟨by decide, fun p5 np5 => ?_⟩⟩⟩⟩⟩
  have u2 := same_upd np2 (.lst [V.int f.2])
  have u3 := same_upd np3 (.lst [V.ref F1, V.ref p2])
  have u4 := same_upd np4 (.tup [V.int 1, V.int 1])
  have u5 := same_upd np5 (.lst [V.ref p4])
  have e2 := (u3.trans (u4.trans u5)) _ _ (upd_same (H := H1) (a := p2) (o := .lst [V.int f.2]))
  have eF := (u2.trans (u3.trans (u4.trans u5))) _ _ eF1
  have e3 := (u4.trans u5) _ _ (upd_same (H := upd H1 p2 (.lst [V.int f.2])) (a := p3) (o := .lst ([F1, p2].map V.ref)))
  have e4 := u5 _ _ (upd_same (H := upd (upd H1 p2 (.lst [V.int f.2])) p3 (.lst [V.ref F1, V.ref p2])) (a := p4) (o := .tup [V.int 1, V.int 1]))
  have e5 : upd (upd (upd (upd H1 p2 (.lst [V.int f.2])) p3 (.lst [V.ref F1, V.ref p2])) p4 (.tup [V.int 1, V.int 1])) p5 (.lst [V.ref p4]) p5 = some (.lst ([p4].map V.ref)) := upd_same
  have s05 := u1.trans (s1.trans (u2.trans (u3.trans (u4.trans u5))))
  generalize upd (upd (upd (upd H1 p2 (.lst [V.int f.2])) p3 (.lst [V.ref F1, V.ref p2])) p4 (.tup [V.int 1, V.int 1])) p5 (.lst [V.ref p4]) = G at e2 eF e3 e4 e5 s05 ⊢
  intro x9 dx9 nx9 nd9 ne9
  have lh : LH G [F1, p2] [trim [-f.1], [f.2]] := ((LH.nil _).snoc eF).snoc e2
  have th : TH G [p4] [((1 : Int), (1 : Int))] := (TH.nil _).snoc (f := (1, 1)) e4
  have sm9 := same_make (C := T.c_Row) nx9 nd9 ne9
  refine ⟨x9, dx9, p3, p5, [F1, p2], [p4], [trim [-f.1], [f.2]], [(1, 1)], 0, rfl, upd_same, SqL.of (sm9 _ _ e3), (lh.same sm9).ll, SqL.of (sm9 _ _ e5), th.same sm9, by decide, C0, fun R9 L9 as9 H5 kp9 nR9 nL9 nRL9 nas9 nRa9 nin9 _ hx9 hR9 hL9 hK9 => ⟨rfl, ?_⟩⟩
  obtain ⟨s5, row9, nR9', nL9', nas9'⟩ := row_made nx9 nd9 ne9 kp9 nR9 nL9 nas9 nRL9 nin9 hx9 hR9 hL9 hK9 th (by decide) C0
  exact z x9 dx9 R9 L9 as9 [p4] H5 (s05.trans s5) (s05.free nR9') (s05.free nL9') (fun b hb => s05.free (nas9' b hb)) row9
def cell (ns : List Int) (k : Nat) : Int := ns.getD k 0
def spCellAt (K : PySem.W.Frag) : Sp := fun vs H Q _ => ∃ (a : Addr) (ns : List Int) (k : Nat), vs = [.ref a, .int (k : Int)] ∧ SqL K H a (ns.map V.int) ∧ Q (.int (cell ns k)) H
theorem ok__law_cell_at {P : Program} {w : World} {K : PySem.W.Frag} {mg : Str → Option Value} {base : Heap} (T : Tx K mg) : FnOk P w K mg base CX0 1 T.a__law_cell_at T.fd__law_cell_at ["_law_script", "_law_k"] (spCellAt K) := by
  refine T.F__law_cell_at.ok sc__law_cell_at (fun vs H Q E h => ?_) (fun cdv A outer s H vs Q E hr h => ?_)
  · obtain ⟨a, ns, k, rfl, _⟩ := h
    rfl
  obtain ⟨a, ns, k, rfl, hS, q⟩ := h
  refine ⟨_, ((pss_cons (ps_if (pt_cmpR op_lt (pv 1) (pe_callB call_len_seq rfl T.z_len bt_len (pa_cons (pv 0) pa_nil)) (nomark _)) (pss_one (ps_ret (pe_ix ix_list (pv 0) (pv 1) (fun _ _ => rfl)))) pss_nil)
    (pss_one (ps_ret pe_int)))), ?_⟩
  k_units
  refine ⟨_, .inl hS, ?_⟩
  rw [List.length_map]
  unfold cell at q
  refine ite2 (fun h => ?_) (fun h => ?_)
  · have h' : k < ns.length := by omega
    rw [List.getD_eq_getElem?_getD, List.getElem?_eq_getElem h'] at q
    exact ⟨_, hS, _, at_int h', q⟩
  · rw [List.getD_eq_getElem?_getD, List.getElem?_eq_none (by omega)] at q
    exact q
theorem ok__law_value {P : Program} {w : World} {K : PySem.W.Frag} {mg : Str → Option Value} {base : Heap} (T : Tx K mg) : FnOk P w K mg base CX0 1 T.a__law_value T.fd__law_value ["_law_poly", "_law_n"] (spValue K) := by
  refine T.F__law_value.ok sc__law_value (fun vs H Q E h => ?_) (fun cdv A outer s H vs Q E hr h => ?_)
  · obtain ⟨a, xs, n, k, l, rfl, _⟩ := h
    rfl
  obtain ⟨a, xs, n, k, l, rfl, hS, hl, hk, hb, hf, q⟩ := h
  refine ⟨_, ((pss_cons (ps_set (i := 2) sc__law_value.nd rfl (Or.inl rfl) pe_int)
    (pss_cons (ps_for PassesOwn.never rfl (pi_rev rfl T.z_reversed (pa_cons (pv 0) pa_nil)) (pg_name (i := 3) sc__law_value.nd rfl (Or.inl rfl)) (pss_one (ps_set (i := 2) sc__law_value.nd rfl (Or.inl rfl) (pe_op op_add (pe_op op_mulZ (pv 2) (pv 1)) (pv 3)))))
    (pss_one (ps_ret (pv 2)))))), ?_⟩
  k_units
  refine ⟨_, hS, ?_⟩
  obtain ⟨Pv, hPv⟩ : ∃ Pv : Nat → L2.St → Hp → Prop, ∀ i σ H', Pv i σ H' ↔ (∃ r, σ = [some (V.ref a), some (V.int n), some (V.int (val n (xs.drop (xs.length - i)))), r]) ∧ Bd (k + (l + 1) * i) (val n (xs.drop (xs.length - i))) ∧ H' = H := ⟨_, fun _ _ _ => Iff.rfl⟩
  refine lp_rev Pv ((hPv _ _ _).mpr ⟨⟨none, by simp [val]⟩, by simp [val, Bd.zero], rfl⟩) (fun i σ H' _ z => by rw [((hPv i σ H').mp z).2.2]; exact hS) ?_ ?_
  · intro i v σ H' hi hv hp
    obtain ⟨⟨r, rfl⟩, hbd, rfl⟩ := (hPv _ _ _).mp hp
    rw [List.length_map] at hi hv
    rw [List.getElem?_map, List.getElem?_eq_getElem (by omega)] at hv
    obtain rfl : V.int xs[xs.length - 1 - i] = v := Option.some.inj hv
    k_units
    have hx : Bd k xs[xs.length - 1 - i] := hk _ (List.getElem_mem _)
    have e : xs.length - (i + 1) = xs.length - 1 - i := by omega
    have i64 : (l + 1) * i ≤ l * 64 + 64 := by have := Nat.mul_le_mul_left (l + 1) (by omega : i ≤ 64); omega
    refine ⟨hbd.fits hb (by omega), (hPv _ _ _).mpr ⟨⟨_, by rw [e, val_drop n xs i hi]⟩, ?_, rfl⟩⟩
    rw [e, val_drop n xs i hi]
    refine ((hbd.mul hb).add (hx.mono (by omega : k ≤ k + (l + 1) * i + l))).mono ?_
    rw [Nat.mul_succ]; omega
  · intro σ H' hp
    obtain ⟨⟨r, rfl⟩, _, rfl⟩ := (hPv _ _ _).mp hp
    k_units
    rw [List.length_map, Nat.sub_self, List.drop_zero]
    exact q
def spLow : Sp := fun vs H Q _ => ∃ t b : Int, vs = [.int t, .int b] ∧ b ≠ 0 ∧ Bd 8900 b ∧ ∀ x y : Int, 1 ≤ y → Nat.gcd x.natAbs y.natAbs = 1 → x * b = t * y → x.natAbs ≤ t.natAbs → y.natAbs ≤ b.natAbs → mkT H Q x y
theorem ok__law_lowest {P : Program} {w : World} {K : PySem.W.Frag} {mg : Str → Option Value} {base : Heap} (T : Tx K mg) : FnOk P w K mg base CX0 1 T.a__law_lowest T.fd__law_lowest ["_law_top", "_law_bottom"] spLow := by
  refine T.F__law_lowest.ok sc__law_lowest (fun vs H Q E h => ?_) (fun cdv A outer s H vs Q E hr h => ?_)
  · obtain ⟨t, b, rfl, _⟩ := h
    rfl
  obtain ⟨t, b, rfl, hn, hb, q⟩ := h
  refine ⟨_, ((pss_cons (ps_set (i := 2) sc__law_lowest.nd rfl (Or.inl rfl) (pe_callB call_abs rfl T.z_abs bt_abs (pa_cons (pv 0) pa_nil)))
    (pss_cons (ps_set (i := 3) sc__law_lowest.nd rfl (Or.inl rfl) (pe_callB call_abs rfl T.z_abs bt_abs (pa_cons (pv 1) pa_nil)))
    (pss_cons (ps_while PassesOwn.never (pt_cmpR op_ne (pv 2) pe_int (nomark _)) (pss_cons (ps_set (i := 4) sc__law_lowest.nd rfl (Or.inl rfl) (pe_op op_mod (pv 3) (pv 2)))
    (pss_cons (ps_set (i := 3) sc__law_lowest.nd rfl (Or.inl rfl) (pv 2))
    (pss_one (ps_set (i := 2) sc__law_lowest.nd rfl (Or.inl rfl) (pv 4))))))
    (pss_cons (ps_if (pt_cmpR op_lt (pv 1) pe_int (nomark _)) (pss_one (ps_set (i := 3) sc__law_lowest.nd rfl (Or.inl rfl) (pe_un un_neg (pv 3)))) pss_nil)
    (pss_one (ps_ret (pe_tup (pa_cons (pe_op op_fdivB (pv 0) (pv 3)) (pa_cons (pe_op op_fdivB (pv 1) (pv 3)) pa_nil)))))))))), ?_⟩
  (iterate 3 (k_units; (try simp only [abs_nat])); k_units)
  have small : ∀ s : Int, s.natAbs = Nat.gcd t.natAbs b.natAbs → s.natAbs < 2 ^ 9000 := fun s e => by
    rw [e]
    exact Nat.lt_of_le_of_lt (Nat.gcd_le_right _ (by omega)) (Nat.lt_of_lt_of_le hb (Nat.pow_le_pow_right (by decide) (by decide)))
  have fin : ∀ s : Int, (s = if b < 0 then -((Nat.gcd t.natAbs b.natAbs : Nat) : Int) else ((Nat.gcd t.natAbs b.natAbs : Nat) : Int)) → (s ≠ 0 ∧ s.natAbs < 2 ^ 9000) ∧ (s ≠ 0 ∧ s.natAbs < 2 ^ 9000) ∧ mkT H Q (t.fdiv s) (b.fdiv s) := fun s e => by
    obtain ⟨g1, g2, g3, g4, g5, g6⟩ := gcd_split hn e
    refine ⟨⟨g1, small s g2⟩, ⟨g1, small s g2⟩, q _ _ g5 g6 ?_ (fdiv_le g1 g3) (fdiv_le g1 g4)⟩
    rw [Int.mul_comm, g4, Int.mul_assoc, ← g4]
    generalize b.fdiv s = y at *
    generalize t.fdiv s = x at *
    rw [g3, Int.mul_assoc, Int.mul_comm x y]
  refine while_of (fun m σ H' => ∃ (x y : Nat) (r : Option V), σ = [some (.int t), some (.int b), some (.int x), some (.int y), r] ∧ H' = H ∧ m = x ∧ Nat.gcd x y = Nat.gcd t.natAbs b.natAbs) t.natAbs ⟨t.natAbs, b.natAbs, none, rfl, rfl, rfl, rfl⟩ ?_
  rintro m σ H' ⟨x, y, r, rfl, rfl, rfl, hg⟩
  k_units
  refine ite2 (fun h => ?_) (fun h => ?_)
  · refine ⟨fun σ' H1 => σ' = [some (V.int t), some (V.int b), some (V.int ((y : Int) % (m : Int))), some (V.int m), some (V.int ((y : Int) % (m : Int)))] ∧ H1 = H', ?_, by omega, rfl, rfl⟩
    rintro σ' H1 ⟨rfl, rfl⟩
    refine ⟨y % m, Nat.mod_lt _ (by omega), y % m, m, _, by rw [← Int.natCast_emod], rfl, rfl, ?_⟩
    rw [← Nat.gcd_rec]; exact hg
  · have h0 : m = 0 := by omega
    subst h0
    rw [Nat.gcd_zero_left] at hg
    rw [hg]
    refine ite2 (fun hneg => ?_) (fun hneg => ?_)
    · obtain ⟨f1, f2, f3⟩ := fin _ (by rw [if_pos hneg])
      exact ⟨f1.1, f1.2, f2.1, f2.2, by decide, f3⟩
    · obtain ⟨f1, f2, f3⟩ := fin _ (by rw [if_neg hneg])
      exact ⟨f1.1, f1.2, f2.1, f2.2, by decide, f3⟩
def spNum37 : Sp := fun vs H Q _ => ∃ c : Int, vs = [.int c] ∧ ∀ n : Int, n.natAbs < 10 ^ 30 → Q (.int n) H
theorem ok__law_number {P : Program} {w : World} {K : PySem.W.Frag} {mg : Str → Option Value} {base : Heap} (T : Tx K mg) : FnOk P w K mg base CX0 1 T.a__law_number T.fd__law_number ["_law_cell"] spNum37 := by
  refine T.F__law_number.ok sc__law_number (fun vs H Q E h => ?_) (fun cdv A outer s H vs Q E hr h => ?_)
  · obtain ⟨c, rfl, _⟩ := h
    rfl
  obtain ⟨c, rfl, q⟩ := h
  refine ⟨_, ((pss_cons (ps_if (pt_cmpR op_eq (pe_op op_mod (pv 0) pe_int) pe_int (nomark _)) (pss_one (ps_ret (pe_op op_add (pe_op op_sub (pe_op op_mod (pe_op op_fdiv (pv 0) pe_int) (pe_op op_sub (pe_op op_mul pe_int (pe_op op_pow pe_int pe_int)) pe_int)) (pe_op op_pow pe_int pe_int)) pe_int))) pss_nil)
    (pss_one (ps_ret (pe_op op_sub (pe_op op_mod (pe_op op_fdiv (pv 0) pe_int) pe_int) pe_int))))), ?_⟩
  k_units
  have e30 : (10 : Int) ^ Int.toNat 30 = 10 ^ 30 := rfl
  rw [e30]
  refine ⟨by decide, ite2 (fun h => ⟨⟨by decide, by decide⟩, ⟨by decide, by decide, by decide⟩, .inl ⟨by decide, by decide⟩, by decide, ⟨by decide, by decide, by decide⟩, ?_⟩) (fun h => ⟨⟨by decide, by decide⟩, by decide, q _ (by omega)⟩)⟩
  have h1 := Int.emod_nonneg (c / 3) (show (2 * 10 ^ 30 - 1 : Int) ≠ 0 by decide)
  have h2 := Int.emod_lt_of_pos (c / 3) (show (0 : Int) < 2 * 10 ^ 30 - 1 by decide)
  exact q _ (by omega)
def spMov (K : PySem.W.Frag) : Sp := fun vs H Q _ => ∃ (a : Addr) (xs : List Int) (b : Int) (k l : Nat), vs = [.ref a, .int b] ∧ SqL K H a (xs.map V.int) ∧ xs.length ≤ 64 ∧ (∀ x ∈ xs, Bd k x) ∧ Bd l b ∧ k + l * 5000 ≤ 60000000 ∧ newL H Q ((shiftL b xs).map V.int)
theorem ok__law_moved {P : Program} {w : World} {K : PySem.W.Frag} {mg : Str → Option Value} {base : Heap} (T : Tx K mg) : FnOk P w K mg base CX0 1 T.a__law_moved T.fd__law_moved ["_law_poly", "_law_by"] (spMov K) := by
  refine T.F__law_moved.ok sc__law_moved (fun vs H Q E h => ?_) (fun cdv A outer s H vs Q E hr h => ?_)
  · obtain ⟨a, xs, b, k, l, rfl, _⟩ := h
    rfl
  obtain ⟨a, xs, b, k, l, rfl, hS, hl, hk, hb, hf, q⟩ := h
  refine ⟨_, ((pss_cons (ps_set (i := 2) sc__law_moved.nd rfl (Or.inl rfl) (pe_callTy call_list_of rfl T.z_list bt_list (pa_cons (pv 0) pa_nil)))
    (pss_cons (ps_for PassesOwn.never rfl (pi_range1 rfl T.z_range (pa_cons (pe_op op_sub (pe_callB call_len_seq rfl T.z_len bt_len (pa_cons (pv 2) pa_nil)) pe_int) pa_nil)) (pg_name (i := 3) sc__law_moved.nd rfl (Or.inl rfl)) (pss_one (ps_for PassesOwn.never rfl (pi_range3 rfl T.z_range (pa_cons (pe_op op_sub (pe_callB call_len_seq rfl T.z_len bt_len (pa_cons (pv 2) pa_nil)) pe_int) (pa_cons (pe_op op_sub (pv 3) pe_int) (pa_cons (pe_un un_neg pe_int) pa_nil)))) (pg_name (i := 4) sc__law_moved.nd rfl (Or.inl rfl)) (pss_one (ps_asg (pe_op op_add (pe_ix ix_list (pv 2) (pv 4) (fun _ _ => rfl)) (pe_op op_mulZ (pv 1) (pe_ix ix_list (pv 2) (pe_op op_add (pv 4) pe_int) (fun _ _ => rfl)))) (pg_sub (pv 2) (pv 4) set_list))))))
    (pss_one (ps_ret (pv 2)))))), ?_⟩
  k_units
  refine ⟨_, .inl hS, fun L hL => ⟨_, .inl (SqL.of upd_same), by rw [List.length_map]; omega, by rw [List.length_map]; omega, ?_⟩⟩
  have e0 : (((xs.map V.int).length : Nat) : Int) - 1 = (xs.length : Int) - 1 := by rw [List.length_map]
  have e1 : ((xs.length : Int) - 1).toNat = xs.length - 1 := by omega
  rw [e0, e1]
  obtain ⟨Pv, hPv⟩ : ∃ Pv : Nat → L2.St → Hp → Prop, ∀ i σ H', Pv i σ H' ↔ ∃ r1 r2 pre zs, σ = [some (V.ref a), some (V.int b), some (V.ref L), r1, r2] ∧ H' = upd H L (.lst ((pre ++ zs).map V.int)) ∧ pre.length = i ∧ pre.length + zs.length = xs.length ∧
    shiftL b xs = pre ++ shiftN b zs.length zs ∧ ∀ y ∈ pre ++ zs, Bd (k + (l + 1) * (i * 64)) y := ⟨_, fun _ _ _ => Iff.rfl⟩
  refine lp_range Pv ((hPv _ _ _).mpr ⟨none, none, [], xs, rfl, rfl, rfl, by simp, rfl, fun y hy => (hk y hy).mono (by omega)⟩) ?_ ?_
  · intro low σ H' hlow hp
    obtain ⟨r1, r2, pre, zs, rfl, rfl, hpre, hlen, hsh, hbd⟩ := (hPv _ _ _).mp hp
    have el : (0 : Int) + (low : Int) = (low : Int) := Int.zero_add _
    (iterate 3 (k_units; (try simp only [el])); k_units)
    obtain ⟨m, hm⟩ : ∃ m, zs.length = m + 1 := ⟨zs.length - 1, by omega⟩
    have hy : ((pre ++ zs).map V.int).length = xs.length := by rw [List.length_map, List.length_append]; exact hlen
    refine ⟨_, .inl (SqL.of upd_same), by decide, by decide, ?_⟩
    rw [hy]
    refine ⟨small_down (by omega) (by omega) (by omega) (by omega), m, size_down (by omega), ?_⟩
    obtain ⟨Pw, hPw⟩ : ∃ Pw : Nat → L2.St → Hp → Prop, ∀ t σ H', Pw t σ H' ↔ ∃ r, σ = [some (V.ref a), some (V.int b), some (V.ref L), some (V.int (low : Int)), r] ∧ H' = upd H L (.lst ((pre ++ mixed b zs (m - t)).map V.int)) ∧
      ∀ y ∈ pre ++ mixed b zs (m - t), Bd (k + (l + 1) * (low * 64 + t)) y := ⟨_, fun _ _ _ => Iff.rfl⟩
    have hz : zs ≠ [] := by intro z; rw [z] at hm; simp at hm
    refine lp_ranges Pw ((hPw _ _ _).mpr ⟨r2, rfl, ?_, ?_⟩) ?_ ?_
    · rw [show m - 0 = zs.length - 1 by omega, mixed_last b zs hz]
    · rw [show m - 0 = zs.length - 1 by omega, mixed_last b zs hz]; exact hbd
    · intro t σ H' ht hp
      obtain ⟨r, rfl, rfl, hbt⟩ := (hPw _ _ _).mp hp
      obtain ⟨j, hj⟩ : ∃ j, m - t = j + 1 := ⟨m - t - 1, by omega⟩
      have ej : m - (t + 1) = j := by omega
      have ep : (xs.length : Int) - 2 + (t : Int) * -1 = ((low + j : Nat) : Int) := by omega
      have ep1 : (xs.length : Int) - 2 + (t : Int) * -1 + 1 = ((low + j + 1 : Nat) : Int) := by omega
      rw [hj] at hbt ⊢
      have hjz : j < zs.length := by omega
      have g0 : (pre ++ mixed b zs (j + 1))[low + j]? = some zs[j] := by
        rw [List.getElem?_append_right (by omega), show low + j - pre.length = j by omega]; exact mixed_at b zs j hjz
      have g1 : (pre ++ mixed b zs (j + 1))[low + j + 1]? = some (hd (synth b (zs.drop (j + 1)))) := by
        rw [List.getElem?_append_right (by omega), show low + j + 1 - pre.length = j + 1 by omega]; exact mixed_next b zs j (by omega)
      have gs : (pre ++ mixed b zs (j + 1)).set (low + j) (zs[j] + b * hd (synth b (zs.drop (j + 1)))) = pre ++ mixed b zs j := by
        rw [List.set_append_right _ _ (by omega), show low + j - pre.length = j by omega, mixed_set b zs j hjz]
      have b0 := hbt _ (List.mem_of_getElem? g0)
      have b1 := hbt _ (List.mem_of_getElem? g1)
      (iterate 3 (k_units; (try simp only [ep, ep1])); k_units)
      have t64 : (l + 1) * (low * 64 + t) ≤ l * 4097 + 4097 := by have := Nat.mul_le_mul_left (l + 1) (by omega : low * 64 + t ≤ 4097); omega
      refine ⟨_, SqL.of upd_same, _, at_some g0, _, SqL.of upd_same, _, (show atI _ ((low + j + 1 : Nat) : Int) = _ from at_some g1), _, rfl, hb.fits b1 (by omega), _, rfl, _, upd_same, low + j, ixN_nat (by rw [List.length_map, List.length_append, mixed_len]; omega), (hPw _ _ _).mpr ⟨_, rfl, ?_, ?_⟩⟩
      · rw [upd_upd, map_set, gs, ej]
      · rw [ej, ← gs]
        intro y hy
        have e64 : (l + 1) * (low * 64 + (t + 1)) = (l + 1) * (low * 64 + t) + (l + 1) := by rw [← Nat.add_assoc, Nat.mul_succ]
        rcases List.mem_or_eq_of_mem_set hy with z | z
        · exact (hbt y z).mono (by omega)
        · rw [z]
          exact ((b0.mono (by omega : k + (l + 1) * (low * 64 + t) ≤ l + (k + (l + 1) * (low * 64 + t)))).add (hb.mul b1)).mono (by omega)
    · intro σ H' hp
      obtain ⟨r, rfl, rfl, hbt⟩ := (hPw _ _ _).mp hp
      rw [Nat.sub_self, mixed_zero] at hbt ⊢
      obtain ⟨s1, s2, s3⟩ := shift_turn b m zs hm
      rw [hm, s1] at hsh
      refine (hPv _ _ _).mpr ⟨_, _, pre ++ [hd (synth b zs)], (synth b zs).tail, rfl, ?_, by rw [List.length_append, hpre]; rfl, by rw [List.length_append, s3, List.length_singleton]; omega, by rw [hsh, s3, List.append_assoc]; rfl, ?_⟩
      · rw [List.append_assoc, List.singleton_append, ← s2]
      · rw [List.append_assoc, List.singleton_append, ← s2]
        have e64 : (l + 1) * ((low + 1) * 64) = (l + 1) * (low * 64 + 64) := by congr 1; omega
        have := Nat.mul_le_mul_left (l + 1) (by omega : low * 64 + m ≤ low * 64 + 64)
        exact fun y hy => (hbt y hy).mono (by omega)
  · intro σ H' hp
    obtain ⟨r1, r2, pre, zs, rfl, rfl, hpre, hlen, hsh, hbd⟩ := (hPv _ _ _).mp hp
    have fin : pre ++ zs = shiftL b xs := by
      rw [hsh]
      by_cases h0 : xs.length = 0
      · have : zs.length = 0 := by omega
        rw [List.eq_nil_of_length_eq_zero this]; rfl
      · have h1 : zs.length = 1 := by omega
        obtain ⟨c, rfl⟩ := List.length_eq_one_iff.mp h1
        rw [show [c].length = 1 from rfl, shift_one]
    rw [fin]
    k_units
    exact q L _ (same_upd hL _) hL upd_same
def spReachL (K : PySem.W.Frag) : Sp := fun vs H Q _ => ∃ (a : Addr) (xs : List Int) (m : Nat), vs = [.ref a] ∧ SqL K H a (xs.map V.int) ∧ xs ≠ [] ∧ xs.length ≤ 64 ∧ (∀ x ∈ xs, Bd 200 x) ∧ m ≤ 60 ∧ clr m xs = true ∧ (∀ j : Nat, j < m → clr j xs = false) ∧ ∀ H', Same H H' → Q (.int (m : Int)) H'
theorem ok__law_reach {P : Program} {w : World} {K : PySem.W.Frag} {mg : Str → Option Value} {base : Heap} (T : Tx K mg) : FnOk P w K mg base CX0 2 T.a__law_reach T.fd__law_reach ["_law_poly"] (spReachL K) := by
  refine T.F__law_reach.ok sc__law_reach (fun vs H Q E h => ?_) (fun cdv A outer s H vs Q E hr h => ?_)
  · obtain ⟨a, xs, m, rfl, _⟩ := h
    rfl
  obtain ⟨a, xs, m, rfl, hS, hne, hl, hb, m60, c1, c2, q⟩ := h
  refine ⟨_, ((pss_cons (ps_for PassesOwn.never rfl (pi_range1 rfl T.z_range (pa_cons pe_int pa_nil)) (pg_name (i := 1) sc__law_reach.nd rfl (Or.inl rfl)) (pss_cons (ps_set (i := 2) sc__law_reach.nd rfl (Or.inl rfl) (pe_call (FnOk.mono (ok__law_moved T) (by decide)) hr rfl T.m__law_moved T.F__law_moved.kp T.b__law_moved .nil pass0 (pa_cons (pv 0) (pa_cons (pv 1) pa_nil))))
    (pss_one (ps_if (PW.pt (pw_and (pt_cmpR op_ne (pe_ix ix_list (pv 2) pe_int (fun _ _ => rfl)) pe_int (nomark _)) (pw_and1 (PW.pt (pw_or (pt_cmpR op_ge (pe_callB (call_minL rfl) rfl T.z_min bt_min (pa_cons (pv 2) pa_nil)) pe_int (nomark _)) (pw_or1 (pt_cmpR op_le (pe_callB (call_maxL rfl) rfl T.z_max bt_max (pa_cons (pv 2) pa_nil)) pe_int (nomark _)))))))) (pss_one (ps_ret (pv 1))) pss_nil))))
    (pss_one (ps_ret pe_int)))), ?_⟩
  k_units
  refine ⟨by decide, by decide, ?_⟩
  have e61 : (61 : Int).toNat = 61 := rfl
  rw [e61]
  obtain ⟨Pv, hPv⟩ : ∃ Pv : Nat → L2.St → Hp → Prop, ∀ i σ H', Pv i σ H' ↔ ∃ r1 r2 : Option V, σ = [some (V.ref a), r1, r2] ∧ Same H H' ∧ ∀ j : Nat, j < i → clr j xs = false := ⟨_, fun _ _ _ => Iff.rfl⟩
  refine lp_range Pv ((hPv _ _ _).mpr ⟨none, none, rfl, Same.refl _, fun j hj => by omega⟩) ?_ ?_
  · intro i σ H' hi hp
    obtain ⟨r1, r2, rfl, sP, hj⟩ := (hPv _ _ _).mp hp
    have e1 : (0 : Int) + (i : Int) = (i : Int) := Int.zero_add _
    (iterate 3 (k_units; (try simp only [e1])); k_units)
    refine ⟨a, xs, i, 200, 10, rfl, sP.seq hS, hl, hb, Bd.of_lt (m := 61) (by omega) (by decide), by decide, fun R H1 s1 nR eR => ?_⟩
    have hit : clr i xs = true → Q (.int (i : Int)) H1 := fun hc => by
      have e : m = i := by
        rcases Nat.lt_trichotomy m i with z | z | z
        · rw [hj m z] at c1; cases c1
        · exact z
        · rw [c2 i z] at hc; cases hc
      rw [← e]; exact q _ (sP.trans s1)
    have nxt : clr i xs = false → Pv (i + 1) [some (V.ref a), some (V.int (i : Int)), some (V.ref R)] H1 := fun hc => (hPv _ _ _).mpr ⟨_, _, rfl, sP.trans s1, fun j hj' => by
      by_cases z : j < i
      · exact hj j z
      · rw [show j = i by omega]; exact hc⟩
    have hlt : 0 < (shiftL (i : Int) xs).length := by rw [shift_len]; exact List.length_pos_iff.mpr hne
    have ci := clr_iff (i : Int) xs
    have cn := clr_no (m := (i : Int)) (xs := xs)
    generalize shiftL (i : Int) xs = ys at eR hlt ci cn
    have at0 : atI (ys.map V.int) 0 = some (V.int ys[0]) := at_int hlt
    have hh : hd ys = ys[0] := by rw [hd_co, co_lt hlt]
    have yne : ys ≠ [] := List.length_pos_iff.mp hlt
    k_units
    refine ⟨_, SqL.of eR, _, at0, ?_⟩
    k_units
    refine ite2 (fun h0 => ?_) (fun h0 => nxt (cn (by rw [co_lt hlt]; omega)))
    have cf := clear_iff (ys := ys) (by rw [hh]; exact h0)
    refine ⟨ys, SqL.of eR, yne, fun M hM hM2 => ite2 (fun h1 => hit (ci.mpr (cf.mpr (.inl fun y hy => Int.le_trans h1 (hM2 y hy))))) (fun h1 => ⟨ys, SqL.of eR, yne, fun N hN hN2 => ite2 (fun h2 => hit (ci.mpr (cf.mpr (.inr fun y hy => Int.le_trans (hN2 y hy) h2)))) (fun h2 => nxt (Bool.eq_false_iff.mpr fun hc => ?_))⟩)⟩
    rcases cf.mp (ci.mp hc) with z | z
    · have := z M hM; omega
    · have := z N hN; omega
  · intro σ H' hp
    obtain ⟨r1, r2, rfl, sP, hj⟩ := (hPv _ _ _).mp hp
    rw [hj m (by omega)] at c1; cases c1
theorem trim_drop {xs : List Int} (h : xs ≠ []) (h0 : xs.getLast h = 0) : trim xs.dropLast = trim xs := by
  have e := List.dropLast_concat_getLast h
  rw [h0] at e
  conv => rhs; rw [← e]
  rw [trim_zero]
theorem pd_nil1 (m : Int) : pdL [] [-m, 1] = [] := nml_ext (pd_nml _ _) (fun a ys h => by simp at h) fun j => by
  rw [pd_lin]; simp [co]
theorem few_ints {p : List Int} (h : p.length ≤ 2) : PyData.canLay0 (.list (p.map PyData.int)) = true ∧ PyData.depth (.list (p.map PyData.int)) ≤ 64 ∧ (PyData.eqv (.list (p.map PyData.int)) (.list []) = true ↔ p = []) := by
  match p, h with
  | [], _ => simp [PyData.canLay0, PyData.canLayAll0, PyData.depth, PyData.depthAll, PyData.eqv, PyData.eqvAll]
  | [x], _ => simp [PyData.canLay0, PyData.canLayAll0, PyData.depth, PyData.depthAll, PyData.eqv, PyData.eqvAll]
  | [x, y], _ => simp [PyData.canLay0, PyData.canLayAll0, PyData.depth, PyData.depthAll, PyData.eqv, PyData.eqvAll]
structure Rul (f l rs : List Int) : Prop where
  nf : Nml f
  lf : f.length ≤ 2
  bf : ∀ x ∈ f, Bd 30 x
  nl : Nml l
  ne : l ≠ []
  ll : l.length ≤ 2
  bl : ∀ x ∈ l, Bd 3 x
  cl : clr 0 l = true
  rs : rs = [] ∨ ∃ m : Int, rs = [m] ∧ 0 ≤ m ∧ m ≤ 30
def spRul (K : PySem.W.Frag) : Sp := fun vs H Q _ => ∃ (a : Addr) (ns : List Int), vs = [.ref a] ∧ SqL K H a (ns.map V.int) ∧ ∀ f l rs, Rul f l rs → ∀ (R : Addr) (as : List Addr) (H' : Hp), Same H H' → H' R = some (.lst (as.map V.ref)) → LH H' as [mulR rs f, mulR rs l] → Q (.ref R) H'
theorem ok__law_rule {P : Program} {w : World} {K : PySem.W.Frag} {mg : Str → Option Value} {base : Heap} (T : Tx K mg) : FnOk P w K mg base CX0 2 T.a__law_rule T.fd__law_rule ["_law_script"] (spRul K) := by
  refine T.F__law_rule.ok sc__law_rule (fun vs H Q E h => ?_) (fun cdv A outer s H vs Q E hr h => ?_)
  · obtain ⟨a, ns, rfl, _⟩ := h
    rfl
  obtain ⟨a, ns, rfl, hA, q⟩ := h
  refine ⟨_, ((pss_cons (ps_set (i := 1) sc__law_rule.nd rfl (Or.inl rfl) (pe_call (FnOk.mono (ok__law_cell_at T) (by decide)) hr rfl T.m__law_cell_at T.F__law_cell_at.kp T.b__law_cell_at .nil pass0 (pa_cons (pv 0) (pa_cons pe_int pa_nil))))
    (pss_cons (ps_set (i := 2) sc__law_rule.nd rfl (Or.inl rfl) (pe_ix ix_list (pe_lst (pa_cons pe_int (pa_cons (pe_op op_pow pe_int pe_int) pa_nil))) (pe_op op_mod (pe_op op_fdiv (pv 1) pe_int) pe_int) (fun _ _ => rfl)))
    (pss_cons (ps_set (i := 3) sc__law_rule.nd rfl (Or.inl rfl) (pe_lst (pa_cons (pe_op op_add (pe_op op_mulZ (pe_op op_sub (pe_op op_mod (pv 1) pe_int) pe_int) (pv 2)) (pe_op op_mod (pe_op op_fdiv (pv 1) pe_int) pe_int)) (pa_cons (pe_op op_mulZ (pe_op op_sub (pe_op op_mod (pe_op op_fdiv (pv 1) pe_int) pe_int) pe_int) (pv 2)) pa_nil))))
    (pss_mid (ps_while PassesOwn.never (PW.pt (pw_and (pt_cmpR op_gt (pe_callB call_len_seq rfl T.z_len bt_len (pa_cons (pv 3) pa_nil)) pe_int (nomark _)) (pw_and1 (pt_cmpR op_eq (pe_ix ix_list (pv 3) (pe_un un_neg pe_int) (fun _ _ => rfl)) pe_int (nomark _))))) (pss_one (ps_expr (pe_bm0 PySem.F.plainAttrs_list PySem.F.slot_list_pop PySem.F.type_list_pop mt_pop (pv 3)))))
    (pss_cons (ps_set (i := 1) sc__law_rule.nd rfl (Or.inl rfl) (pe_call (FnOk.mono (ok__law_cell_at T) (by decide)) hr rfl T.m__law_cell_at T.F__law_cell_at.kp T.b__law_cell_at .nil pass0 (pa_cons (pv 0) (pa_cons pe_int pa_nil))))
    (pss_cons (ps_set (i := 4) sc__law_rule.nd rfl (Or.inl rfl) (pe_ix ix_list (pe_lst (pa_cons (pe_lst (pa_cons (pe_op op_add pe_int (pe_op op_mod (pe_op op_fdiv (pv 1) pe_int) pe_int)) pa_nil)) (pa_cons (pe_lst (pa_cons (pe_op op_add pe_int (pe_op op_mod (pe_op op_fdiv (pv 1) pe_int) pe_int)) (pa_cons pe_int pa_nil))) pa_nil))) (pe_op op_mod (pv 1) pe_int) (fun _ _ => rfl)))
    (pss_cons (ps_if (pt_cmpR op_eq (pe_op op_mod (pe_op op_fdiv (pv 1) pe_int) pe_int) pe_int (nomark _)) (pss_one (ps_ret (pe_lst (pa_cons (pv 3) (pa_cons (pv 4) pa_nil))))) pss_nil)
    (pss_cons (ps_set (i := 5) sc__law_rule.nd rfl (Or.inl rfl) (pe_op op_mod (pe_op op_fdiv (pv 1) pe_int) pe_int))
    (pss_cons (ps_set (i := 6) sc__law_rule.nd rfl (Or.inl rfl) (pe_lst pa_nil))
    (pss_cons (ps_for PassesOwn.never rfl (pi_list (pe_lst (pa_cons (pv 3) (pa_cons (pv 4) pa_nil)))) (pg_name (i := 7) sc__law_rule.nd rfl (Or.inl rfl)) (pss_cons (ps_set (i := 8) sc__law_rule.nd rfl (Or.inl rfl) (pe_op op_cat (pe_lst (pa_cons pe_int pa_nil)) (pv 7)))
    (pss_mid (ps_for PassesOwn.never rfl (pi_range1 rfl T.z_range (pa_cons (pe_callB call_len_seq rfl T.z_len bt_len (pa_cons (pv 7) pa_nil)) pa_nil)) (pg_name (i := 9) sc__law_rule.nd rfl (Or.inl rfl)) (pss_one (ps_asg (pe_op op_sub (pe_ix ix_list (pv 8) (pv 9) (fun _ _ => rfl)) (pe_op op_mulZ (pv 5) (pe_ix ix_list (pv 7) (pv 9) (fun _ _ => rfl)))) (pg_sub (pv 8) (pv 9) set_list))))
    (pss_mid (ps_if (pt_cmpR (op_eqD hr.units) (pv 7) (pe_lst pa_nil) (nomark _)) (pss_one (ps_set (i := 8) sc__law_rule.nd rfl (Or.inl rfl) (pe_lst pa_nil))) pss_nil)
    (pss_one (ps_expr (pe_bm PySem.F.plainAttrs_list PySem.F.slot_list_append PySem.F.type_list_append mt_append (pv 6) (pa_cons (pv 8) pa_nil))))))))
    (pss_one (ps_ret (pv 6)))))))))))))), ?_⟩
  dsimp only [a_seq]
  k_typeOf
  refine ⟨a, ns, 1, rfl, hA, ?_⟩
  dsimp only [a_seq]
  k_typeOf
  generalize cell ns 1 = c
  refine ⟨⟨by decide, by decide, by decide⟩, by decide, fun p np => ⟨⟨by decide, by decide⟩, by decide, _, SqL.of upd_same, ?_⟩⟩
  obtain ⟨sc, hsc, sc2⟩ : ∃ sc : Int, atI [V.int 1, V.int (10 ^ Int.toNat 6)] (c / 49 % 2) = some (V.int sc) ∧ (sc = 1 ∨ sc = 1000000) := by
    rcases (show c / 49 % 2 = 0 ∨ c / 49 % 2 = 1 by omega) with e | e <;> rw [e]
    · exact ⟨1, rfl, .inl rfl⟩
    · exact ⟨1000000, rfl, .inr rfl⟩
  refine ⟨_, hsc, ?_⟩
  have u1 := same_upd np (.lst [V.int 1, V.int (10 ^ Int.toNat 6)])
  generalize upd H p (.lst [V.int 1, V.int (10 ^ Int.toNat 6)]) = H1 at u1 ⊢
  have bsc : Bd 30 sc := Bd.of_lt (m := 1000001) (by omega) (by decide)
  have b7 : ∀ z : Int, Bd 10 (z % 7 - 3) := fun z => Bd.of_lt (m := 4) (by omega) (by decide)
  dsimp only [a_seq]
  k_typeOf
  refine ⟨by decide, (b7 _).fits bsc (by decide), ⟨by decide, by decide⟩, by decide, ⟨by decide, by decide⟩, by decide, (b7 _).fits bsc (by decide), by decide, fun L nL => ?_⟩
  obtain ⟨x, hx, hx2⟩ : ∃ x : Int, (c % 7 - 3) * sc + c / 98 % 2 = x ∧ Bd 30 x := by
    refine ⟨_, rfl, ?_⟩
    rcases sc2 with rfl | rfl
    · exact Bd.of_lt (m := 3000002) (by omega) (by decide)
    · exact Bd.of_lt (m := 3000002) (by omega) (by decide)
  obtain ⟨y, hy, hy2⟩ : ∃ y : Int, (c / 7 % 7 - 3) * sc = y ∧ Bd 30 y := by
    refine ⟨_, rfl, ?_⟩
    rcases sc2 with rfl | rfl
    · exact Bd.of_lt (m := 3000002) (by omega) (by decide)
    · exact Bd.of_lt (m := 3000002) (by omega) (by decide)
  rw [hx, hy]
  obtain ⟨M, hM⟩ : ∃ M : L2.St → Hp → Prop, ∀ σ Hx, M σ Hx ↔ σ = [some (V.ref a), some (V.int c), some (V.int sc), some (V.ref L), none, none, none, none, none, none] ∧ Hx L = some (.lst ((trim [x, y]).map V.int)) ∧ Same H Hx := ⟨_, fun _ _ => Iff.rfl⟩
  refine mid_of M ?_ ?_
  · k_units
    refine while_of (fun m σ H' => ∃ ys : List Int, ys.length = m ∧ σ = [some (V.ref a), some (V.int c), some (V.int sc), some (V.ref L), none, none, none, none, none, none] ∧ H' = upd H1 L (.lst (ys.map V.int)) ∧ trim ys = trim [x, y]) 2 ⟨[x, y], rfl, rfl, rfl, rfl⟩ ?_
    rintro m σ H' ⟨ys, hm, rfl, rfl, he⟩
    k_units
    refine ⟨_, .inl (SqL.of upd_same), ?_⟩
    rw [List.length_map]
    have fin : Nml ys → M [some (V.ref a), some (V.int c), some (V.int sc), some (V.ref L), none, none, none, none, none, none] (upd H1 L (.lst (ys.map V.int))) := fun hn => by
      refine (hM _ _).mpr ⟨rfl, ?_, u1.trans (same_upd nL _)⟩
      rw [upd_same, ← he, nml_trim hn]
    refine ite2 (fun h => ?_) (fun h => ?_)
    · have hne : ys ≠ [] := by intro z; rw [z] at h; simp at h
      refine ⟨_, SqL.of upd_same, _, at_last hne, ?_⟩
      k_units
      refine ite2 (fun h0 => ?_) (fun h0 => ?_)
      · refine ⟨fun σ' H2 => σ' = [some (V.ref a), some (V.int c), some (V.int sc), some (V.ref L), none, none, none, none, none, none] ∧ H2 = upd H1 L (.lst (ys.dropLast.map V.int)), ?_, a_tyL (SqL.of upd_same), _, upd_same, V.int (ys.getLast hne), ?_, rfl, ?_⟩
        · rintro σ' H2 ⟨rfl, rfl⟩
          exact ⟨ys.length - 1, by omega, ys.dropLast, List.length_dropLast, rfl, rfl, by rw [trim_drop hne h0]; exact he⟩
        · rw [List.getElem?_map, List.length_map, ← List.getLast?_eq_getElem?, List.getLast?_eq_some_getLast hne]; rfl
        · rw [upd_upd, ← List.map_dropLast]
      · refine fin (nml_last.mpr fun x hx => ?_)
        rw [List.getLast?_eq_some_getLast hne] at hx
        rw [← Option.some.inj hx]; exact h0
    · have hn : ys = [] := List.eq_nil_of_length_eq_zero (by omega)
      exact fin (by rw [hn]; exact nml_nil)
  intro σ H2 hm
  obtain ⟨rfl, eL, s2⟩ := (hM _ _).mp hm
  clear hm hM M
  have nf := trim_nml [x, y]
  have lf : (trim [x, y]).length ≤ 2 := trim_len _
  have bf : ∀ v ∈ trim [x, y], Bd 30 v := fun v hv => by
    have := in_trim hv
    simp at this
    rcases this with rfl | rfl
    · exact hx2
    · exact hy2
  generalize trim [x, y] = f at eL nf lf bf
  clear hx hy hx2 hy2 sc2 hsc bsc b7
  dsimp only [a_seq]
  k_typeOf
  refine ⟨a, ns, 2, rfl, s2.seq hA, ?_⟩
  generalize cell ns 2 = d
  dsimp only [a_seq]
  k_typeOf
  refine ⟨⟨by decide, by decide⟩, by decide, by decide, fun p1 np1 => ⟨⟨by decide, by decide⟩, by decide, by decide, fun p2 np2 => ⟨by decide, fun p3 np3 => ⟨by decide, _, SqL.of upd_same, ?_⟩⟩⟩⟩
  have v1 := same_upd np1 (.lst [V.int (1 + d / 2 % 3)])
  have v2 := same_upd np2 (.lst [V.int (1 + d / 2 % 5), V.int 1])
  have v3 := same_upd np3 (.lst [V.ref p1, V.ref p2])
  have e1 := (v2.trans v3) _ _ (upd_same (H := H2) (a := p1) (o := .lst [V.int (1 + d / 2 % 3)]))
  have e2 := v3 _ _ (upd_same (H := upd H2 p1 (.lst [V.int (1 + d / 2 % 3)])) (a := p2) (o := .lst [V.int (1 + d / 2 % 5), V.int 1]))
  have s3 := s2.trans (v1.trans (v2.trans v3))
  have eL3 := (v1.trans (v2.trans v3)) _ _ eL
  generalize upd (upd (upd H2 p1 (.lst [V.int (1 + d / 2 % 3)])) p2 (.lst [V.int (1 + d / 2 % 5), V.int 1])) p3 (.lst [V.ref p1, V.ref p2]) = G at e1 e2 s3 eL3 ⊢
  obtain ⟨Lp, l, hLp, eLp, nl, lne, ll, bl⟩ : ∃ (Lp : Addr) (l : List Int), atI [V.ref p1, V.ref p2] (d % 2) = some (V.ref Lp) ∧ G Lp = some (.lst (l.map V.int)) ∧ Nml l ∧ l ≠ [] ∧ l.length ≤ 2 ∧ ∀ x ∈ l, 1 ≤ x ∧ x ≤ 5 := by
    rcases (show d % 2 = 0 ∨ d % 2 = 1 by omega) with e | e <;> rw [e]
    · exact ⟨p1, [1 + d / 2 % 3], rfl, e1, nml_of_last (.inr (by show 1 + d / 2 % 3 ≠ 0; omega)), by simp, by simp, fun x hx => by rw [List.mem_singleton.mp hx]; omega⟩
    · exact ⟨p2, [1 + d / 2 % 5, 1], rfl, e2, nml_of_last (.inr (by show (1 : Int) ≠ 0; decide)), by simp, by simp, fun x hx => by simp at hx; omega⟩
  have cl : clr 0 l = true := by
    refine os_sign (e := 1) (.inl rfl) ?_ fun x hx => by have := bl x hx; omega
    cases l with
    | nil => exact absurd rfl lne
    | cons x r => have := bl x (by simp); show 0 < 1 * x; omega
  have rul : ∀ rs : List Int, (rs = [] ∨ ∃ m : Int, rs = [m] ∧ 0 ≤ m ∧ m ≤ 30) → Rul f l rs := fun rs h => ⟨nf, lf, bf, nl, lne, ll, fun x hx => Bd.of_lt (m := 6) (by have := bl x hx; omega) (by decide), cl, h⟩
  refine ⟨_, hLp, ?_⟩
  clear e1 e2 v1 v2 v3 np1 np2 np3 hLp eL s2
  dsimp only [a_seq]
  k_typeOf
  refine ⟨⟨by decide, by decide⟩, by decide, ite2 (fun h => ⟨by decide, fun p np => ?_⟩) (fun h => ?_)⟩
  · have up := same_upd np (.lst [V.ref L, V.ref Lp])
    exact q f l [] (rul [] (.inl rfl)) p [L, Lp] _ (s3.trans up) upd_same (((LH.nil _).snoc (up _ _ eL3)).snoc (up _ _ eLp))
  dsimp only [a_seq]
  k_typeOf
  refine ⟨⟨by decide, by decide⟩, by decide, ?_⟩
  obtain ⟨m, hm, m0, m30⟩ : ∃ m : Int, d / 60 % 31 = m ∧ 0 ≤ m ∧ m ≤ 30 := ⟨_, rfl, by omega, by omega⟩
  rw [hm]
  have bm : Bd 10 m := Bd.of_lt (m := 31) (by omega) (by decide)
  dsimp only [a_seq]
  k_typeOf
  refine ⟨Nat.zero_le _, fun Fd nFd => ?_⟩
  have w1 := same_upd nFd (.lst [])
  dsimp only [a_seq]
  k_typeOf
  refine ⟨by decide, fun P6 nP6 => ?_⟩
  have w2 := same_upd nP6 (.lst [V.ref L, V.ref Lp])
  have eFd : upd (upd G Fd (.lst [])) P6 (.lst [V.ref L, V.ref Lp]) Fd = some (.lst (([] : List Addr).map V.ref)) := w2 _ _ upd_same
  have eP6 : upd (upd G Fd (.lst [])) P6 (.lst [V.ref L, V.ref Lp]) P6 = some (.lst ([L, Lp].map V.ref)) := upd_same
  have w12 := w1.trans w2
  have nFP : Fd ≠ P6 := fun z => by rw [← z, upd_same] at nP6; cases nP6
  generalize upd (upd G Fd (.lst [])) P6 (.lst [V.ref L, V.ref Lp]) = G2 at eFd eP6 w12 ⊢
  clear w1 w2 nP6
  obtain ⟨Pv, hPv⟩ : ∃ Pv : Nat → L2.St → Hp → Prop, ∀ i σ H', Pv i σ H' ↔ ∃ (bs : List Addr) (r7 r8 r9 : Option V), σ = [some (V.ref a), some (V.int d), some (V.int sc), some (V.ref L), some (V.ref Lp), some (V.int m), some (V.ref Fd), r7, r8, r9] ∧ H' Fd = some (.lst (bs.map V.ref)) ∧ LH H' bs (([f, l].map (fun p => pdL p [-m, 1])).take i) ∧ Fd ∉ bs ∧ H' P6 = some (.lst ([L, Lp].map V.ref)) ∧ Same G H' := ⟨_, fun _ _ _ => Iff.rfl⟩
  refine ⟨⟨_, SqL.of eP6⟩, lp_list (xs := [L, Lp].map V.ref) Pv ((hPv _ _ _).mpr ⟨[], none, none, none, rfl, eFd, LH.nil _, by simp, eP6, w12⟩) (fun i σ H' _ z => by obtain ⟨_, _, _, _, _, _, _, _, z, _⟩ := (hPv i σ H').mp z; exact SqL.of z) ?_ ?_⟩
  · intro i v σ H' hv hp
    obtain ⟨bs, r7, r8, r9, rfl, zF, zL, zn, zP, zG⟩ := (hPv _ _ _).mp hp
    obtain ⟨Z, p, rfl, eZ, hp2, np2⟩ : ∃ (Z : Addr) (p : List Int), v = V.ref Z ∧ G Z = some (.lst (p.map V.int)) ∧ [f, l][i]? = some p ∧ (Nml p ∧ p.length ≤ 2 ∧ ∀ x ∈ p, Bd 30 x) := by
      match i, hv with
      | 0, hv => exact ⟨L, f, (Option.some.inj hv).symm, eL3, rfl, nf, lf, bf⟩
      | 1, hv => exact ⟨Lp, l, (Option.some.inj hv).symm, eLp, rfl, nl, ll, fun x hx => Bd.of_lt (m := 6) (by have := bl x hx; omega) (by decide)⟩
      | i + 2, hv => simp at hv
    k_units
    obtain ⟨np3, lp3, bp3⟩ := np2
    have eZ' := zG _ _ eZ
    refine ⟨by decide, fun p8 np8 => ?_⟩
    have t1 := same_upd np8 (.lst [V.int 0])
    refine ⟨_, upd_same, _, t1 _ _ eZ', Nat.le_of_lt (small1000 (by simp; omega)), fun N nN => ?_⟩
    have eN : [V.int 0] ++ p.map V.int = (0 :: p).map V.int := rfl
    rw [eN]
    have t2 := same_upd nN (.lst ((0 :: p).map V.int))
    have gN : upd (upd H' p8 (.lst [V.int 0])) N (.lst ((0 :: p).map V.int)) N = some (.lst ((0 :: p).map V.int)) := upd_same
    have t12 := t1.trans t2
    have nN' : H' N = none := t1.free nN
    generalize upd (upd H' p8 (.lst [V.int 0])) N (.lst ((0 :: p).map V.int)) = K0 at gN t12 ⊢
    clear t1 t2 nN np8
    obtain ⟨M, hM⟩ : ∃ M : L2.St → Hp → Prop, ∀ σ Hx, M σ Hx ↔ ∃ r9 : Option V, σ = [some (V.ref a), some (V.int d), some (V.int sc), some (V.ref L), some (V.ref Lp), some (V.int m), some (V.ref Fd), some (V.ref Z), some (V.ref N), r9] ∧ Hx N = some (.lst ((lin m p).map V.int)) ∧ Same H' Hx := ⟨_, fun _ _ => Iff.rfl⟩
    refine mid_of M ?_ ?_
    · k_units
      refine ⟨_, .inl (SqL.of (t12 _ _ eZ')), ?_⟩
      rw [List.length_map, Int.toNat_natCast]
      refine ⟨by omega, by omega, ?_⟩
      obtain ⟨Pw, hPw⟩ : ∃ Pw : Nat → L2.St → Hp → Prop, ∀ j σ Hx, Pw j σ Hx ↔ ∃ (zs : List Int) (r9 : Option V), σ = [some (V.ref a), some (V.int d), some (V.int sc), some (V.ref L), some (V.ref Lp), some (V.int m), some (V.ref Fd), some (V.ref Z), some (V.ref N), r9] ∧ Hx N = some (.lst (zs.map V.int)) ∧ zs.length = p.length + 1 ∧
        (∀ t, co zs t = co (0 :: p) t - if t < j then m * co p t else 0) ∧ Same H' Hx := ⟨_, fun _ _ _ => Iff.rfl⟩
      refine lp_range Pw ((hPw _ _ _).mpr ⟨0 :: p, _, rfl, gN, rfl, fun t => by rw [if_neg (by omega)]; omega, t12⟩) ?_ ?_
      · intro j σ H3 hj hp'
        obtain ⟨zs, r9, rfl, hz, lz, cz', sz⟩ := (hPw _ _ _).mp hp'
        have e2 : (0 : Int) + (j : Int) = (j : Int) := Int.zero_add _
        (iterate 3 (k_units; (try simp only [e2])); k_units)
        have hiz : j < zs.length := by omega
        refine ⟨_, SqL.of hz, _, at_int hiz, _, SqL.of (sz _ _ eZ'), _, at_int hj, ?_⟩
        k_units
        refine ⟨bm.fits (bp3 _ (List.getElem_mem hj)) (by decide), _, hz, j, ixN_nat (by rw [List.length_map]; exact hiz), (hPw _ _ _).mpr ⟨zs.set j (zs[j] - m * p[j]), _, rfl, by rw [upd_same, map_set], by rw [List.length_set]; exact lz, fun t => ?_, sz.more nN'⟩⟩
        rw [co_set _ _ _ _ hiz]
        by_cases e : t = j
        · subst e
          have := cz' t
          rw [if_neg (by omega), co_lt hiz] at this
          rw [if_pos rfl, if_pos (by omega), co_lt hj, this]; omega
        · rw [if_neg e, cz' t]
          by_cases e3 : t < j
          · rw [if_pos e3, if_pos (by omega)]
          · rw [if_neg e3, if_neg (by omega)]
      · intro σ H3 hp'
        obtain ⟨zs, r9, rfl, hz, lz, cz', sz⟩ := (hPw _ _ _).mp hp'
        have ez : zs = lin m p := co_ext (by rw [lz]; unfold lin; simp) fun t _ => by
          rw [cz' t, lin_co, co_cons]
          by_cases e3 : t < p.length
          · rw [if_pos e3]
          · rw [if_neg e3, co_ge (xs := p) (k := t) (by omega), Int.mul_zero]
        rw [ez] at hz
        exact (hM _ _).mpr ⟨r9, rfl, hz, sz⟩
    intro σ K1 hm1
    obtain ⟨r9, rfl, zN, zs1⟩ := (hM _ _).mp hm1
    clear hm1 hM M
    obtain ⟨M, hM⟩ : ∃ M : L2.St → Hp → Prop, ∀ σ Hx, M σ Hx ↔ ∃ (N2 : Addr) (r9 : Option V), σ = [some (V.ref a), some (V.int d), some (V.int sc), some (V.ref L), some (V.ref Lp), some (V.int m), some (V.ref Fd), some (V.ref Z), some (V.ref N2), r9] ∧ Hx N2 = some (.lst ((pdL p [-m, 1]).map V.int)) ∧ H' N2 = none ∧ Same H' Hx := ⟨_, fun _ _ => Iff.rfl⟩
    refine mid_of M ?_ ?_
    · k_units
      refine ⟨Nat.zero_le _, fun p9 np9 => ?_⟩
      have t9 := same_upd np9 (.lst [])
      have zs9 := zs1.trans t9
      obtain ⟨fw1, fw2, fw3⟩ := few_ints lp3
      refine ⟨.list (p.map PyData.int), DV.ints (SqL.of (zs9 _ _ eZ')), .list [], .lst (SqL.of upd_same) .nil, fw1, rfl, fw2, ite2 (fun hc => ⟨Nat.zero_le _, fun N3 n3 => ?_⟩) (fun hc => ?_)⟩
      · have e0 := fw3.mp hc
        exact (hM _ _).mpr ⟨N3, r9, rfl, by rw [e0, pd_nil1]; exact upd_same, zs9.free n3, zs9.trans (same_upd n3 _)⟩
      · refine (hM _ _).mpr ⟨N, r9, rfl, ?_, nN', zs9⟩
        rw [← lin_is np3 (fun z => hc (fw3.mpr z))]
        exact t9 _ _ zN
    intro σ K2 hm2
    obtain ⟨N2, r9, rfl, zN2, nN2, zs2⟩ := (hM _ _).mp hm2
    clear hm2 hM M
    k_units
    have nNF : N2 ≠ Fd := fun z => by rw [z, zF] at nN2; cases nN2
    have m1 : Fd ∉ bs ++ [N2] := fun z => by
      rcases List.mem_append.mp z with z | z
      · exact zn z
      · exact nNF (List.mem_singleton.mp z).symm
    have lbs := zL.len
    have et : ([f, l].map (fun p => pdL p [-m, 1])).take (i + 1) = ([f, l].map (fun p => pdL p [-m, 1])).take i ++ [pdL p [-m, 1]] := by
      obtain ⟨h1, h2⟩ := List.getElem?_eq_some_iff.mp hp2
      rw [← List.take_append_getElem (by rw [List.length_map]; exact h1), List.getElem_map, h2]
    refine ⟨a_tyL (SqL.of (zs2 _ _ zF)), _, zs2 _ _ zF, by rw [List.length_map]; exact small1000 (by rw [lbs, List.length_take]; simp; omega), (hPv _ _ _).mpr ⟨bs ++ [N2], _, _, _, rfl, by rw [upd_same]; simp, ?_, m1, by rw [upd_ne (Ne.symm nFP)]; exact zs2 _ _ zP, (zG.trans zs2).more nFd⟩⟩
    rw [et]
    exact ((zL.same zs2).snoc zN2).upd m1
  intro σ H' hp
  obtain ⟨bs, r7, r8, r9, rfl, zF, zL, zn, zP, zG⟩ := (hPv _ _ _).mp hp
  k_units
  exact q f l [m] (rul [m] (.inr ⟨m, rfl, m0, m30⟩)) Fd bs H' (s3.trans zG) zF zL
theorem Rul.br {f l rs : List Int} (h : Rul f l rs) : (∀ r ∈ rs, r.natAbs < 64) ∧ rs.length ≤ 1 ∧ ∀ r ∈ rs, 0 ≤ r ∧ r ≤ 30 := by
  rcases h.rs with rfl | ⟨m, rfl, h1, h2⟩
  · simp
  · refine ⟨fun r hr => by rw [List.mem_singleton.mp hr]; omega, by simp, fun r hr => by rw [List.mem_singleton.mp hr]; omega⟩
theorem Rul.b {f l rs : List Int} (h : Rul f l rs) : (∀ p ∈ [f, l], (mulR rs p).length ≤ 3 ∧ ∀ x ∈ mulR rs p, Bd 40 x) := fun p hp => by
  obtain ⟨b1, b2, _⟩ := h.br
  have hp' : Nml p ∧ p.length ≤ 2 ∧ ∀ x ∈ p, Bd 30 x := by
    simp at hp
    rcases hp with rfl | rfl
    · exact ⟨h.nf, h.lf, h.bf⟩
    · exact ⟨h.nl, h.ll, fun x hx => (h.bl x hx).mono (by decide)⟩
  have lm := mulR_len rs p hp'.1
  exact ⟨by omega, fun x hx => (mulR_bd (k := 30) rs p hp'.1 b1 (by omega) hp'.2.2 x hx).mono (by omega)⟩
theorem kp_two {f l : List Int} {fs : List (Int × Int)} {z : Int × Int} {n : Nat} (hn : fs.length = n + 1) (hv : ∀ g ∈ fs, 1 ≤ g.2) (hz : 1 ≤ z.2) (h : z.1 * ((fs[n]).2 * val (n : Int) l) = -(val (n : Int) f * (fs[n]).1) * z.2) : Kp [f, l] (fs ++ [z]) n := by
  refine (kp_snoc (by simp) (by simp; omega) hv hz).mpr ?_
  have ed : fs.drop n = [fs[n]] := by
    rw [List.drop_eq_getElem_cons (by omega), List.drop_of_length_le (by omega)]
  have h1 := hv _ (List.getElem_mem (show n < fs.length by omega))
  have ew : ws [f, l] fs n = [(val (n : Int) f, fs[n])] := by
    unfold ws; rw [ed]; simp
  have el : ([f, l] : List (List Int)).getLastD [] = l := rfl
  rw [ew, ed, el]
  simp only [lcmL, Wm, Int.mul_one, Int.add_zero]
  have e1 : (fs[n].2).fdiv fs[n].2 = 1 := by
    have := Int.mul_fdiv_cancel_left (1 : Int) (show fs[n].2 ≠ 0 by omega)
    rwa [Int.mul_one] at this
  rw [e1, Int.mul_one]; exact h
def spNext37 (K : PySem.W.Frag) : Sp := fun vs H Q _ => ∃ (R D : Addr) (as bs : List Addr) (f l rs : List Int) (fs : List (Int × Int)) (c : Int), vs = [.ref R, .ref D, .int c] ∧ H R = some (.lst (as.map V.ref)) ∧ LH H as [mulR rs f, mulR rs l] ∧ Rul f l rs ∧ H D = some (.lst (bs.map V.ref)) ∧ TH H bs fs ∧ fs.length ≤ 95 ∧ InvV 20 fs ∧
  ∀ (z : Int × Int) (r : Addr) (H' : Hp), Same H H' → H' r = some (.tup [.int z.1, .int z.2]) → InvV 20 (fs ++ [z]) → (∀ n : Nat, n + 1 = fs.length → Kp [mulR rs f, mulR rs l] (fs ++ [z]) n) → Q (.ref r) H'
theorem ok__law_next {P : Program} {w : World} {K : PySem.W.Frag} {mg : Str → Option Value} {base : Heap} (T : Tx K mg) : FnOk P w K mg base CX0 2 T.a__law_next T.fd__law_next ["_law_rule_here", "_law_values_here", "_law_free"] (spNext37 K) := by
  refine T.F__law_next.ok sc__law_next (fun vs H Q E h => ?_) (fun cdv A outer s H vs Q E hr h => ?_)
  · obtain ⟨R, D, as, bs, f, l, rs, fs, c, rfl, _⟩ := h
    rfl
  obtain ⟨R, D, as, bs, f, l, rs, fs, c, rfl, eR, lh, ru, eD, th, l95, iv, q⟩ := h
  refine ⟨_, ((pss_cons (ps_set (i := 3) sc__law_next.nd rfl (Or.inl rfl) (pe_op op_sub (pe_callB call_len_seq rfl T.z_len bt_len (pa_cons (pv 1) pa_nil)) pe_int))
    (pss_cons (ps_set (i := 4) sc__law_next.nd rfl (Or.inl rfl) pe_int)
    (pss_mid (ps_if (pt_cmpR op_ge (pv 3) pe_int (nomark _)) (pss_one (ps_set (i := 4) sc__law_next.nd rfl (Or.inl rfl) (pe_call (FnOk.mono (ok__law_value T) (by decide)) hr rfl T.m__law_value T.F__law_value.kp T.b__law_value .nil pass0 (pa_cons (pe_ix ix_list (pv 0) pe_int (fun _ _ => rfl)) (pa_cons (pv 3) pa_nil))))) pss_nil)
    (pss_cons (ps_if (pt_cmpR op_eq (pv 4) pe_int (nomark _)) (pss_one (ps_ret (pe_call (FnOk.mono (ok__law_lowest T) (by decide)) hr rfl T.m__law_lowest T.F__law_lowest.kp T.b__law_lowest .nil pass0 (pa_cons (pe_op op_sub (pe_op op_mod (pv 2) pe_int) pe_int) (pa_cons (pe_op op_add pe_int (pe_op op_mod (pe_op op_fdiv (pv 2) pe_int) pe_int)) pa_nil))))) pss_nil)
    (pss_one (ps_ret (pe_call (FnOk.mono (ok__law_lowest T) (by decide)) hr rfl T.m__law_lowest T.F__law_lowest.kp T.b__law_lowest .nil pass0 (pa_cons (pe_op op_mulZ (pe_un un_neg (pe_call (FnOk.mono (ok__law_value T) (by decide)) hr rfl T.m__law_value T.F__law_value.kp T.b__law_value .nil pass0 (pa_cons (pe_ix ix_list (pv 0) pe_int (fun _ _ => rfl)) (pa_cons (pv 3) pa_nil)))) (pe_ix ix_tup (pe_ix ix_list (pv 1) (pv 3) (fun _ _ => rfl)) pe_int (fun _ _ => rfl))) (pa_cons (pe_op op_mulZ (pe_ix ix_tup (pe_ix ix_list (pv 1) (pv 3) (fun _ _ => rfl)) pe_int (fun _ _ => rfl)) (pv 4)) pa_nil)))))))))), ?_⟩
  have draw : (∀ n : Nat, n + 1 = fs.length → (n : Int) ∈ rs) → spLow [V.int (c % 19 - 9), V.int (1 + c / 19 % 4)] H Q E0 := fun hyp => by
    refine ⟨_, _, rfl, by omega, Bd.of_lt (m := 5) (by omega) (Nat.le_trans (show 5 ≤ 2 ^ 3 by decide) (Nat.pow_le_pow_right (by decide) (by decide))), fun x y y1 cg e lx ly r nr => ?_⟩
    refine q (x, y) r _ (same_upd nr _) upd_same (iv.draw ⟨y1, cg⟩ (Bd.of_lt (m := 10) (by show x.natAbs < 10; omega) (by decide)) (by show y.natAbs ≤ 1000; omega) (by decide)) fun n hn => ?_
    exact (kp_mulR (ps := [f, l])).mpr (.inl (hyp n hn))
  have lb := th.len
  dsimp only [a_seq]
  k_typeOf
  refine ⟨_, .inl (SqL.of eD), ?_⟩
  rw [List.length_map, lb]
  dsimp only [a_seq]
  k_typeOf
  obtain ⟨M, hM⟩ : ∃ M : L2.St → Hp → Prop, ∀ σ Hx, M σ Hx ↔ Hx = H ∧ ∃ v : Int, σ = [some (V.ref R), some (V.ref D), some (V.int c), some (V.int ((fs.length : Int) - 1)), some (V.int v)] ∧ ((fs.length = 0 ∧ v = 0) ∨ ∃ n : Nat, n + 1 = fs.length ∧ v = val (n : Int) (mulR rs l)) := ⟨_, fun _ _ => Iff.rfl⟩
  have llh := lh.len
  match as, llh with
  | [A0, A1], _ =>
  have eA0 := lh.get 0 A0 _ rfl rfl
  have eA1 := lh.get 1 A1 _ rfl rfl
  have rb := ru.b
  obtain ⟨l0, b0⟩ := rb f (by simp)
  obtain ⟨l1, b1⟩ := rb l (by simp)
  refine mid_of M ?_ ?_
  · k_units
    refine ite2 (fun h => ?_) (fun h => (hM _ _).mpr ⟨rfl, 0, rfl, .inl ⟨by omega, rfl⟩⟩)
    obtain ⟨n, hn⟩ : ∃ n, n + 1 = fs.length := ⟨fs.length - 1, by omega⟩
    have en : (fs.length : Int) - 1 = (n : Int) := by omega
    have bn : Bd 7 (n : Int) := Bd.of_lt (m := 101) (by omega) (by decide)
    refine ⟨_, SqL.of eR, V.ref A1, rfl, A1, mulR rs l, (n : Int), 40, 7, by rw [en], SqL.of eA1, by omega, b1, bn, by decide, (hM _ _).mpr ⟨rfl, _, rfl, .inr ⟨n, hn, rfl⟩⟩⟩
  intro σ Hx hm
  obtain ⟨rfl, v, rfl, hv⟩ := (hM _ _).mp hm
  clear hm hM M
  have hin : v = 0 → ∀ n : Nat, n + 1 = fs.length → (n : Int) ∈ rs := fun h0 n hn => by
    rcases hv with ⟨z, _⟩ | ⟨n', hn', e⟩
    · omega
    · have e2 : n' = n := by omega
      rw [h0, e2, mulR_val] at e
      rcases Int.mul_eq_zero.mp e.symm with z | z
      · exact absurd z (val_clr ru.cl (by omega))
      · exact prodR_zero.mp z
  dsimp only [a_seq]
  k_typeOf
  refine ite2 (fun h0 => ⟨by decide, ⟨by decide, by decide⟩, by decide, draw (hin h0)⟩) (fun h0 => ?_)
  rcases hv with ⟨_, z⟩ | ⟨n, hn, hv⟩
  · exact absurd z h0
  have en : (fs.length : Int) - 1 = (n : Int) := by omega
  have bn : Bd 7 (n : Int) := Bd.of_lt (m := 101) (by omega) (by decide)
  have hnl : n < fs.length := by omega
  have hnb : n < bs.length := by omega
  have eb := th.get n _ _ (List.getElem?_eq_getElem hnb) (List.getElem?_eq_getElem hnl)
  have gd := iv.good (by omega) (by omega)
  have bf1 := (gd.1 _ (List.getElem_mem hnl)).2
  have F := (gd.1 _ (List.getElem_mem hnl)).1
  have bf2 : Bd 2900 (fs[n]).2 := by
    obtain ⟨_, E1, g1, g2, g3⟩ := gd
    exact Nat.lt_of_le_of_lt (Nat.le_of_dvd (by omega) (Int.natAbs_dvd_natAbs.mpr (g3 _ (List.getElem_mem hnl)))) g2
  have bv0 : Bd 70 (val (n : Int) (mulR rs f)) := (val_bd (k := 40) (l := 7) bn _ b0).mono (by omega)
  have bv1 : Bd 70 v := by rw [hv]; exact (val_bd (k := 40) (l := 7) bn _ b1).mono (by omega)
  have atb : atI (bs.map V.ref) ((fs.length : Int) - 1) = some (V.ref bs[n]) := by rw [en]; exact atI_nat (by rw [List.getElem?_map, List.getElem?_eq_getElem hnb]; rfl)
  k_units
  have f2p := F.1
  refine ⟨_, SqL.of eR, V.ref A0, rfl, A0, mulR rs f, (n : Int), 40, 7, by rw [en], SqL.of eA0, by omega, b0, bn, by decide, _, rfl, _, SqL.of eD, _, atb, _, rfl, _, SqT.of eb, _, rfl, _, rfl, bv0.neg.fits bf1 (by decide), _, SqL.of eD, _, atb, _, rfl, _, SqT.of eb, _, rfl, _, rfl, bf2.fits bv1 (by decide), ?_⟩
  refine ⟨_, _, rfl, Int.mul_ne_zero (by omega) h0, (bf2.mul bv1).mono (by decide), fun x y y1 cg e3 _ _ r nr => ?_⟩
  have hl0 : val (n : Int) l ≠ 0 := val_clr ru.cl (by omega)
  have hP : prodR (n : Int) rs ≠ 0 := fun z => h0 (by rw [hv, mulR_val, z, Int.mul_zero])
  have key : x * ((fs[n]).2 * val (n : Int) l) = -(val (n : Int) f * (fs[n]).1) * y := by
    rw [hv, mulR_val, mulR_val] at e3
    generalize prodR (n : Int) rs = Pn at e3 hP
    generalize val (n : Int) l = vl at e3
    generalize val (n : Int) f = vf at e3
    refine Int.eq_of_mul_eq_mul_left hP ?_
    have a1 : Pn * (x * (fs[n].2 * vl)) = x * (fs[n].2 * (vl * Pn)) := by grind
    have a2 : Pn * (-(vf * fs[n].1) * y) = -(vf * Pn) * fs[n].1 * y := by grind
    rw [a1, a2]; exact e3
  have v1 : ∀ g ∈ fs, 1 ≤ g.2 := fun g hg => (iv.f g hg).1.1
  have kp := kp_two (f := f) (l := l) (z := (x, y)) hn.symm v1 y1 key
  have zeq : (x, y) = nextF [f, l] fs := next_uniq (n := n) (by simp) (by simp; omega) v1 hl0 ⟨y1, cg⟩ kp
  have inv : InvV 20 (fs ++ [(x, y)]) := by
    rw [zeq]
    refine iv.next (ps := [f, l]) (n := n) (by simp) (by simp; omega) (by simp) hl0 (fun p hp => ?_) ?_
    · simp at hp
      rcases hp with rfl | rfl
      · have := ru.lf
        exact Nat.le_of_lt ((val_bd (k := 30) (l := 7) bn _ ru.bf).mono (by omega))
      · have := ru.ll
        exact Nat.le_of_lt ((val_bd (k := 3) (l := 7) bn _ ru.bl).mono (by omega))
    · have := ru.ll
      exact (val_bd (k := 3) (l := 7) bn l ru.bl).mono (by omega)
  refine q (x, y) r _ (same_upd nr _) upd_same inv fun n' hn' => ?_
  rw [show n' = n by omega]
  exact (kp_mulR (ps := [f, l])).mpr (.inr kp)
def spVals37 (K : PySem.W.Frag) : Sp := fun vs H Q _ => ∃ (a R : Addr) (as : List Addr) (ns f l rs : List Int) (N : Nat), vs = [.ref a, .ref R, .int (N : Int)] ∧ SqL K H a (ns.map V.int) ∧ H R = some (.lst (as.map V.ref)) ∧ LH H as [mulR rs f, mulR rs l] ∧ Rul f l rs ∧ N ≤ 95 ∧
  ∀ (fs : List (Int × Int)) (D : Addr) (bs : List Addr) (H' : Hp), Same H H' → H' D = some (.lst (bs.map V.ref)) → TH H' bs fs → fs.length = N → InvV 20 fs → (∀ n : Nat, n + 2 ≤ fs.length → Kp [mulR rs f, mulR rs l] fs n) → Q (.ref D) H'
theorem ok__law_values {P : Program} {w : World} {K : PySem.W.Frag} {mg : Str → Option Value} {base : Heap} (T : Tx K mg) : FnOk P w K mg base CX0 3 T.a__law_values T.fd__law_values ["_law_script", "_law_rule_here", "_law_many"] (spVals37 K) := by
  refine T.F__law_values.ok sc__law_values (fun vs H Q E h => ?_) (fun cdv A outer s H vs Q E hr h => ?_)
  · obtain ⟨a, R, as, ns, f, l, rs, N, rfl, _⟩ := h
    rfl
  obtain ⟨a, R, as, ns, f, l, rs, N, rfl, hA, eR, lh, ru, l95, q⟩ := h
  refine ⟨_, ((pss_cons (ps_set (i := 3) sc__law_values.nd rfl (Or.inl rfl) (pe_lst pa_nil))
    (pss_cons (ps_while PassesOwn.never (pt_cmpR op_lt (pe_callB call_len_seq rfl T.z_len bt_len (pa_cons (pv 3) pa_nil)) (pv 2) (nomark _)) (pss_one (ps_expr (pe_bm PySem.F.plainAttrs_list PySem.F.slot_list_append PySem.F.type_list_append mt_append (pv 3) (pa_cons (pe_call (FnOk.mono (ok__law_next T) (by decide)) hr rfl T.m__law_next T.F__law_next.kp T.b__law_next .nil pass0 (pa_cons (pv 1) (pa_cons (pv 3) (pa_cons (pe_call (FnOk.mono (ok__law_cell_at T) (by decide)) hr rfl T.m__law_cell_at T.F__law_cell_at.kp T.b__law_cell_at .nil pass0 (pa_cons (pv 0) (pa_cons (pe_op op_add pe_int (pe_op op_mod (pe_callB call_len_seq rfl T.z_len bt_len (pa_cons (pv 3) pa_nil)) pe_int)) pa_nil))) pa_nil)))) pa_nil)))))
    (pss_one (ps_ret (pv 3)))))), ?_⟩
  k_units
  refine ⟨Nat.zero_le _, fun D nD => ?_⟩
  obtain ⟨Pu, hPu⟩ : ∃ Pu : Nat → L2.St → Hp → Prop, ∀ u σ Hx, Pu u σ Hx ↔ ∃ (fs : List (Int × Int)) (bs : List Addr), σ = [some (V.ref a), some (V.ref R), some (V.int (N : Int)), some (V.ref D)] ∧ Hx D = some (.lst (bs.map V.ref)) ∧ TH Hx bs fs ∧ u = N - fs.length ∧ fs.length ≤ N ∧ InvV 20 fs ∧ (∀ n : Nat, n + 2 ≤ fs.length → Kp [mulR rs f, mulR rs l] fs n) ∧ Same H Hx := ⟨_, fun _ _ _ => Iff.rfl⟩
  refine while_of Pu N ((hPu _ _ _).mpr ⟨[], [], rfl, upd_same, TH.nil _, rfl, Nat.zero_le _, InvV.nil _, fun n hn => by simp at hn, same_upd nD _⟩) ?_
  intro u σ Hx hu
  obtain ⟨fs, bs, rfl, eD, th, rfl, hl, iv, kp, sx⟩ := (hPu _ _ _).mp hu
  have lb := th.len
  k_units
  refine ⟨_, .inl (SqL.of eD), ?_⟩
  rw [List.length_map, lb]
  refine ite2 (fun h => ?_) (fun h => ?_)
  · refine ⟨fun σ' H1 => Pu (N - (fs.length + 1)) σ' H1, fun σ' H1 hN => ⟨_, by omega, hN⟩, a_tyL (SqL.of eD), _, .inl (SqL.of eD), by decide, ?_⟩
    rw [List.length_map, lb]
    obtain ⟨j, hj⟩ : ∃ j : Nat, (5 : Int) + (fs.length : Int) % 50 = (j : Int) := ⟨5 + fs.length % 50, by omega⟩
    rw [hj]
    refine ⟨a, ns, j, rfl, sx.seq hA, R, D, as, bs, f, l, rs, fs, _, rfl, sx _ _ eR, lh.same sx, ru, eD, th, by omega, iv, fun z r H1 s1 er iv' kp' => ?_⟩
    refine ⟨_, s1 _ _ eD, by rw [List.length_map]; exact small1000 (by omega), (hPu _ _ _).mpr ⟨fs ++ [z], bs ++ [r], rfl, by rw [upd_same]; simp, TH.upd (TH.snoc (th.same s1) er) (s1 _ _ eD), by simp, by simp; omega, iv', fun n hn => ?_, (sx.trans s1).more nD⟩⟩
    rw [List.length_append, List.length_cons, List.length_nil] at hn
    by_cases y : n + 2 ≤ fs.length
    · exact (kp_app (by simpa using y)).mpr (kp n y)
    · exact kp' n (by omega)
  · exact q fs D bs Hx sx eD th (by omega) iv kp
theorem eqd_int {H : Hp} {i : Int} : ∀ d : Nat, EqD H d (.int i) (.int i)
  | 0 => ⟨i, rfl, rfl⟩
  | _ + 1 => .inl ⟨i, rfl, rfl⟩
theorem eqd_ints {H : Hp} {a b : Addr} {xs : List Int} (d : Nat) (ea : H a = some (.lst (xs.map V.int))) (eb : H b = some (.lst (xs.map V.int))) : EqD H (d + 1) (.ref a) (.ref b) :=
  .inr ⟨a, b, _, _, rfl, rfl, .inl ⟨ea, eb⟩, rfl, fun i u v h1 h2 => by
    rw [h1] at h2
    obtain rfl := Option.some.inj h2
    rw [List.getElem?_map] at h1
    obtain ⟨x, _, rfl⟩ := Option.map_eq_some_iff.mp h1
    exact eqd_int d⟩
theorem eqd_tup {H : Hp} {a b : Addr} {f : Int × Int} (d : Nat) (ea : H a = some (.tup [.int f.1, .int f.2])) (eb : H b = some (.tup [.int f.1, .int f.2])) : EqD H (d + 1) (.ref a) (.ref b) :=
  .inr ⟨a, b, _, _, rfl, rfl, .inr ⟨ea, eb⟩, rfl, fun i u v h1 h2 => by
    match i, h1, h2 with
    | 0, h1, h2 => obtain rfl := Option.some.inj h1; obtain rfl := Option.some.inj h2; exact eqd_int d
    | 1, h1, h2 => obtain rfl := Option.some.inj h1; obtain rfl := Option.some.inj h2; exact eqd_int d
    | i + 2, h1, _ => simp at h1⟩
theorem eqd_ll {H : Hp} {a b : Addr} {as bs : List Addr} {ps : List (List Int)} (d : Nat) (ea : H a = some (.lst (as.map V.ref))) (la : LH H as ps) (eb : H b = some (.lst (bs.map V.ref))) (lb : LH H bs ps) : EqD H (d + 2) (.ref a) (.ref b) :=
  .inr ⟨a, b, _, _, rfl, rfl, .inl ⟨ea, eb⟩, by simp [la.len, lb.len], fun i u v h1 h2 => by
    rw [List.getElem?_map] at h1 h2
    obtain ⟨x, hx, rfl⟩ := Option.map_eq_some_iff.mp h1
    obtain ⟨y, hy, rfl⟩ := Option.map_eq_some_iff.mp h2
    have hi := (List.getElem?_eq_some_iff.mp hx).1
    have hp : i < ps.length := by rw [← la.len]; exact hi
    exact eqd_ints d (la.get i x _ hx (List.getElem?_eq_getElem hp)) (lb.get i y _ hy (List.getElem?_eq_getElem hp))⟩
theorem eqd_tl {H : Hp} {a b : Addr} {as bs : List Addr} {fs : List (Int × Int)} (d : Nat) (ea : H a = some (.lst (as.map V.ref))) (la : TH H as fs) (eb : H b = some (.lst (bs.map V.ref))) (lb : TH H bs fs) : EqD H (d + 2) (.ref a) (.ref b) :=
  .inr ⟨a, b, _, _, rfl, rfl, .inl ⟨ea, eb⟩, by simp [la.len, lb.len], fun i u v h1 h2 => by
    rw [List.getElem?_map] at h1 h2
    obtain ⟨x, hx, rfl⟩ := Option.map_eq_some_iff.mp h1
    obtain ⟨y, hy, rfl⟩ := Option.map_eq_some_iff.mp h2
    have hi := (List.getElem?_eq_some_iff.mp hx).1
    have hp : i < fs.length := by rw [← la.len]; exact hi
    exact eqd_tup d (la.get i x _ hx (List.getElem?_eq_getElem hp)) (lb.get i y _ hy (List.getElem?_eq_getElem hp))⟩
theorem eqd_two {H : Hp} {a b a1 a2 b1 b2 : Addr} {d : Nat} (ea : H a = some (.tup [.ref a1, .ref a2])) (eb : H b = some (.tup [.ref b1, .ref b2])) (h1 : EqD H d (.ref a1) (.ref b1)) (h2 : EqD H d (.ref a2) (.ref b2)) : EqD H (d + 1) (.ref a) (.ref b) :=
  .inr ⟨a, b, _, _, rfl, rfl, .inr ⟨ea, eb⟩, rfl, fun i u v q1 q2 => by
    match i, q1, q2 with
    | 0, q1, q2 => obtain rfl := Option.some.inj q1; obtain rfl := Option.some.inj q2; exact h1
    | 1, q1, q2 => obtain rfl := Option.some.inj q1; obtain rfl := Option.some.inj q2; exact h2
    | i + 2, q1, _ => simp at q1⟩
def spLRow (K : PySem.W.Frag) (C : Addr) : Sp := fun vs H Q _ => ∃ (x dx R L Ru Fi Du : Addr) (as cs ru fi du : List Addr) (ps : List (List Int)) (ff gs : List (Int × Int)) (m k N : Nat), vs = [.ref x, .ref Ru, .ref Fi, .ref Du] ∧ RowAt C H x dx R L as cs ps ff m k ∧ H Ru = some (.lst (ru.map V.ref)) ∧ LH H ru ps ∧ H Fi = some (.lst (fi.map V.ref)) ∧ TH H fi (gs.take (ps.length - 1 + m)) ∧ H Du = some (.lst (du.map V.ref)) ∧ Du ≠ L ∧ TH H du (gs.take N) ∧ N ≤ gs.length ∧ gs.length ≤ 100 ∧ (∀ i, ff.length + i ≤ gs.length → carryF ps ff i = gs.take (ff.length + i)) ∧ Good gs ∧ ff.length + k ≤ gs.length ∧
  ∀ (H' : Hp) (cs' : List Addr) (k' : Nat), SameX [L] H H' → RowAt C H' x dx R L as cs' ps ff m k' → ff.length + k' ≤ gs.length → Q (.bl true) H'
theorem ok__law_row {P : Program} {w : World} {K : PySem.W.Frag} {mg : Str → Option Value} {base : Heap} (T : Tx K mg) : FnOk P w K mg base CX0 8 T.a__law_row T.fd__law_row ["_law_row_here", "_law_rule_here", "_law_first", "_law_due"] (spLRow K T.c_Row) := by
  refine T.F__law_row.ok sc__law_row (fun vs H Q E h => ?_) (fun cdv A outer s H vs Q E hr h => ?_)
  · obtain ⟨x, dx, R, L, Ru, Fi, Du, as, cs, ru, fi, du, ps, ff, gs, m, k, N, rfl, _⟩ := h
    rfl
  obtain ⟨x, dx, R, L, Ru, Fi, Du, as, cs, ru, fi, du, ps, ff, gs, m, k, N, rfl, rw_, eRu, lRu, eFi, tFi, eDu, nDu, tDu, hN, l100, hc, hg, hk, q⟩ := h
  refine ⟨_, ((pss_cons (ps_if (pt_not (pt_val (pe_call (FnOk.mono (ok__law_is T 6) (by decide)) hr rfl T.m__law_is T.F__law_is.kp T.b__law_is .nil pass0 (pa_cons (pe_meth0 (pv 0) T.cl_Row T.me_Row_told (FnOk.mono (ok_Row_told T) (by decide)) hr T.b_Row_told .nil pass0) (pa_cons (pe_tup (pa_cons (pv 1) (pa_cons (pv 2) pa_nil))) pa_nil))))) (pss_one (ps_ret pe_bl)) pss_nil)
    (pss_cons (ps_for PassesOwn.never rfl (pi_range1 rfl T.z_range (pa_cons (pe_callB call_len_seq rfl T.z_len bt_len (pa_cons (pv 3) pa_nil)) pa_nil)) (pg_name (i := 4) sc__law_row.nd rfl (Or.inl rfl)) (pss_one (ps_if (pt_not (pt_val (pe_call (FnOk.mono (ok__law_is T 6) (by decide)) hr rfl T.m__law_is T.F__law_is.kp T.b__law_is .nil pass0 (pa_cons (pe_meth (pv 0) T.cl_Row T.me_Row_at (FnOk.mono (ok_Row_at T) (by decide)) hr T.b_Row_at .nil passF (pa_cons (pv 4) pa_nil)) (pa_cons (pe_ix ix_list (pv 3) (pv 4) (fun _ _ => rfl)) pa_nil))))) (pss_one (ps_ret pe_bl)) pss_nil)))
    (pss_one (ps_ret pe_bl))))), ?_⟩
  have nd := rw_.c.need
  have lp := List.length_pos_iff.mpr rw_.c.I.1
  dsimp only [a_seq]
  k_typeOf
  refine ⟨dx, _, rw_.hx, rfl, x, dx, R, L, as, cs, ps, ff, m, k, rfl, rw_.hx, rw_.hR, rw_.hL, rw_.hK, rw_.hT, rw_.l4, rw_.c, fun t A' B' as' cs' H1 s1 nA nB nas nAa nBa nAB nd' eA la eB tb et => ⟨by decide, fun p np => ?_⟩⟩
  have up := same_upd np (.tup [V.ref Ru, V.ref Fi])
  have s2 := s1.trans up
  have eg : (carryF ps ff k).take (ps.length - 1 + m) = gs.take (ps.length - 1 + m) := by rw [hc k hk, List.take_take, Nat.min_eq_left (by omega)]
  rw [eg] at tb
  refine ⟨_, _, rfl, eqd_two (up _ _ et) upd_same (eqd_ll 2 (up _ _ eA) (la.same up) (s2 _ _ eRu) (lRu.same s2)) (eqd_tl 2 (up _ _ eB) (tb.same up) (s2 _ _ eFi) (tFi.same s2)), fun H3 s3 => ⟨true, rfl, ?_⟩⟩
  rw [if_neg (by decide)]
  have s03 := s2.trans s3
  have r3 := rw_.same s03
  have eDu3 := s03 _ _ eDu
  have tDu3 := tDu.same s03
  clear s1 up s2 s3 nA nB nas nAa nBa nAB nd' eA la eB tb et np
  dsimp only [a_seq]
  k_typeOf
  refine ⟨_, .inl (SqL.of eDu3), ?_⟩
  have ldu : du.length = N := by rw [tDu.len, List.length_take]; omega
  rw [List.length_map, ldu, Int.toNat_natCast]
  refine ⟨by omega, by omega, ?_⟩
  obtain ⟨Pv, hPv⟩ : ∃ Pv : Nat → L2.St → Hp → Prop, ∀ i σ H', Pv i σ H' ↔ ∃ (cs2 : List Addr) (k2 : Nat) (r4 : Option V), σ = [some (V.ref x), some (V.ref Ru), some (V.ref Fi), some (V.ref Du), r4] ∧ SameX [L] H3 H' ∧ RowAt T.c_Row H' x dx R L as cs2 ps ff m k2 ∧ ff.length + k2 ≤ gs.length := ⟨_, fun _ _ _ => Iff.rfl⟩
  refine lp_range Pv ((hPv _ _ _).mpr ⟨cs, k, none, rfl, fun _ _ _ e => e, r3, hk⟩) ?_ ?_
  · intro i σ H' hi hp
    obtain ⟨cs2, k2, r4, rfl, sx, r2, hk2⟩ := (hPv _ _ _).mp hp
    have e0 : (0 : Int) + (i : Int) = (i : Int) := Int.zero_add _
    (iterate 3 (k_units; (try simp only [e0])); k_units)
    refine ⟨dx, _, r2.hx, rfl, x, dx, R, L, (i : Int), as, cs2, ps, ff, m, k2, rfl, r2.hx, r2.hR, r2.hL, r2.nRL, r2.nin, r2.hK, r2.hT, r2.l4, r2.c, .inr ⟨i, rfl, by omega, fun j hj => ?_, fun r cs3 k3 f H4 kk km kp eL th hf hcs er => ?_⟩⟩
    · rw [hc j (by omega)]
      exact hg.sub fun g hg' => List.mem_of_mem_take hg'
    have hk3 : ff.length + k3 ≤ gs.length := by omega
    have hfj : gs[i]? = some f := by
      rw [hc k3 hk3] at hf
      have hl := (List.getElem?_eq_some_iff.mp hf).1
      rw [List.length_take] at hl
      rw [List.getElem?_take_of_lt (by omega)] at hf; exact hf
    have sL : SameX [L] H' H4 := fun b o hb e => kp b o (fun z => hb (by simp [z])) e
    have lL : Lsts [L] H' := fun a ha => by rw [List.mem_singleton.mp ha]; exact ⟨_, r2.hK⟩
    have lL3 : Lsts [L] H3 := fun a ha => by rw [List.mem_singleton.mp ha]; exact ⟨_, r3.hK⟩
    have r4' := r2.on sL lL (fun z => List.mem_singleton.mp z) (fun b _ z => List.mem_singleton.mp z) eL th
    have s34 := sx.trans sL
    have hid : i < du.length := by omega
    have eDu4 := s34 _ _ (fun z => nDu (List.mem_singleton.mp z)) eDu3
    have ed := (tDu3.kept s34 lL3).get i _ f (List.getElem?_eq_getElem hid) (by rw [List.getElem?_take_of_lt hi]; exact hfj)
    refine ⟨_, SqL.of eDu4, V.ref du[i], atI_nat (by rw [List.getElem?_map, List.getElem?_eq_getElem hid]; rfl), _, _, rfl, eqd_tup 4 er ed, fun H5 s5 => ⟨true, rfl, ?_⟩⟩
    rw [if_neg (by decide)]
    exact (hPv _ _ _).mpr ⟨cs3, k3, _, rfl, s34.trans (same_x s5), r4'.same s5, hk3⟩
  · intro σ H' hp
    obtain ⟨cs2, k2, r4, rfl, sx, r2, hk2⟩ := (hPv _ _ _).mp hp
    k_units
    exact q H' cs2 k2 ((same_x s03).trans sx) r2 hk2
theorem eqv_dec (xs ys : List Int) : PyData.eqv (.list (xs.map PyData.int)) (.list (ys.map PyData.int)) = decide (xs = ys) := by simp [PyData.eqv, eqvAll_ints]
theorem lay_self (xs : List Int) : PyData.canLay0 (.list (xs.map PyData.int)) = true := by simp [PyData.canLay0, lay_ints]
theorem dep_self (xs : List Int) : PyData.depth (.list (xs.map PyData.int)) ≤ 64 := by simp [PyData.depth, depth_ints]
theorem LH.cons {H : Hp} {as : List Addr} {ps : List (List Int)} {a : Addr} {p : List Int} (h : LH H as ps) (e : H a = some (.lst (p.map V.int))) : LH H (a :: as) (p :: ps) := by
  refine ⟨by simp [h.len], fun i b r h1 h2 => ?_⟩
  cases i with
  | zero => simp at h1 h2; rw [← h1, ← h2]; exact e
  | succ i => exact h.get i b r (by simpa using h1) (by simpa using h2)
def NewL (te : TE) (xs : List Int) : Prop := ∀ (σ : L2.St) (H : Hp) (Q : VK), newL H Q (xs.map V.int) → te σ H Q
theorem nl_one (c : Int) : NewL (tLst (tCons (tC (V.int c)) tNil)) [c] := fun σ H Q h => ⟨Nat.le_of_lt (small1000 (by simp)), fun p np => h p _ (same_upd np _) np upd_same⟩
theorem nl_neg (c : Int) : NewL (tLst (tCons (tUn (rU fun i => V.int (-i)) (tC (V.int c))) tNil)) [-c] := fun σ H Q h => ⟨c, rfl, Nat.le_of_lt (small1000 (by simp)), fun p np => h p _ (same_upd np _) np upd_same⟩
def Ag (ta : TA) (ps : List (List Int)) : Prop := ∀ (σ : L2.St) (H : Hp) (Q : List V → Hp → Prop), (∀ (as : List Addr) (H' : Hp), Same H H' → LH H' as ps → Q (as.map V.ref) H') → ta σ H Q
theorem ag_nil : Ag tNil [] := fun σ H Q h => h [] H (Same.refl _) (LH.nil _)
theorem ag_cons {te : TE} {ta : TA} {x : List Int} {ps : List (List Int)} (h1 : NewL te x) (h2 : Ag ta ps) : Ag (tCons te ta) (x :: ps) := fun σ H Q h => h1 σ H _ fun r H1 s1 n1 e1 => h2 σ H1 _ fun as H2 s2 l2 => h (r :: as) H2 (s1.trans s2) (LH.cons l2 (s2 _ _ e1))
def LAt (H : Hp) (A : Addr) (ps : List (List Int)) : Prop := ∃ as : List Addr, H A = some (.lst (as.map V.ref)) ∧ LH H as ps
theorem LAt.same {H H' : Hp} {A : Addr} {ps : List (List Int)} (h : LAt H A ps) (s : Same H H') : LAt H' A ps := by
  obtain ⟨as, h1, h2⟩ := h
  exact ⟨as, s _ _ h1, h2.same s⟩
def NewLL (te : TE) (ps : List (List Int)) : Prop := ∀ (σ : L2.St) (H : Hp) (Q : VK), (∀ (A : Addr) (H' : Hp), Same H H' → LAt H' A ps → Q (.ref A) H') → te σ H Q
theorem nll {ta : TA} {ps : List (List Int)} (h : Ag ta ps) (l : ps.length ≤ 900) : NewLL (tLst ta) ps := fun σ H Q hq => h σ H _ fun as H1 s1 l1 => ⟨Nat.le_of_lt (by rw [List.length_map, l1.len]; exact small1000 (by omega)), fun p np => hq p _ (s1.trans (same_upd np _)) ⟨as, upd_same, l1.same (same_upd np _)⟩⟩
def Ag2 (ta : TA) (pss : List (List (List Int))) : Prop := ∀ (σ : L2.St) (H : Hp) (Q : List V → Hp → Prop), (∀ (As : List Addr) (H' : Hp), Same H H' → As.length = pss.length → (∀ (i : Nat) (A : Addr) (ps : List (List Int)), As[i]? = some A → pss[i]? = some ps → LAt H' A ps) → Q (As.map V.ref) H') → ta σ H Q
theorem ag2_nil : Ag2 tNil [] := fun σ H Q h => h [] H (Same.refl _) rfl (fun i A ps h1 => by simp at h1)
theorem ag2_cons {te : TE} {ta : TA} {ps : List (List Int)} {pss : List (List (List Int))} (h1 : NewLL te ps) (h2 : Ag2 ta pss) : Ag2 (tCons te ta) (ps :: pss) := fun σ H Q h => h1 σ H _ fun A H1 s1 l1 => h2 σ H1 _ fun As H2 s2 e2 l2 => h (A :: As) H2 (s1.trans s2) (by simp [e2]) fun i B qs q1 q2 => by
  cases i with
  | zero =>
    simp at q1 q2
    rw [← q1, ← q2]; exact l1.same s2
  | succ i => exact l2 i B qs (by simpa using q1) (by simpa using q2)
def spReady (K : PySem.W.Frag) : Sp := fun vs H Q _ => ∃ (a q : Addr) (ns : List Int) (g : Int × Int), vs = [.ref a, .ref q] ∧ SqL K H a (ns.map V.int) ∧ SqT K H q [.int g.1, .int g.2] ∧ Frc g ∧ Bd 110 g.1 ∧ Bd 110 g.2 ∧ ∀ H', Same H H' → Q (.bl true) H'
theorem ok__law_ready {P : Program} {w : World} {K : PySem.W.Frag} {mg : Str → Option Value} {base : Heap} (T : Tx K mg) : FnOk P w K mg base CX0 11 T.a__law_ready T.fd__law_ready ["_law_script", "_law_fraction"] (spReady K) := by
  refine T.F__law_ready.ok sc__law_ready (fun vs H Q E h => ?_) (fun cdv A outer s H vs Q E hr h => ?_)
  · obtain ⟨a, q, ns, g, rfl, _⟩ := h
    rfl
  obtain ⟨a, q, ns, g, rfl, hA, hq, hF, g1, g2, z⟩ := h
  refine ⟨_, ((pss_cons (ps_set (i := 2) sc__law_ready.nd rfl (Or.inr rfl) (pe_lcomp rfl (blkok rfl (sub_cons rfl sub_nil) (fv_cons 0 "_law_script" (by decide) rfl (Or.inl rfl) (Or.inl rfl) ⟨_, rfl⟩ fv_nil)) (pi_range1 rfl T.z_range (pa_cons (pe_op op_mod (pe_op op_fdiv (pe_call (FnOk.mono (ok__law_cell_at T) (by decide)) hr rfl T.m__law_cell_at T.F__law_cell_at.kp T.b__law_cell_at .nil pass0 (pa_cons (pv 0) (pa_cons pe_int pa_nil))) pe_int) pe_int) pa_nil)) (fun _ _ _ _ => (pe_call (FnOk.mono (ok__law_number T) (by decide)) hr rfl T.m__law_number T.F__law_number.kp T.b__law_number .nil pass0 (pa_cons (pe_call (FnOk.mono (ok__law_cell_at T) (by decide)) hr rfl T.m__law_cell_at T.F__law_cell_at.kp T.b__law_cell_at .nil pass0 (pa_cons (pv 1) (pa_cons (pe_op op_add pe_int (pv 0)) pa_nil))) pa_nil)))))
    (pss_mid (ps_if (PW.pt (pw_and (pt_cmpR op_gt (pe_callB call_len_seq rfl T.z_len bt_len (pa_cons (pv 2) pa_nil)) pe_int (nomark _)) (pw_and1 (pt_cmpR op_eq (pe_ix ix_list (pv 2) (pe_un un_neg pe_int) (fun _ _ => rfl)) pe_int (nomark _))))) (pss_one (ps_asg pe_int (pg_sub (pv 2) (pe_un un_neg pe_int) set_list))) pss_nil)
    (pss_cons (ps_set (i := 3) sc__law_ready.nd rfl (Or.inl rfl) (pe_lst (pa_cons (pe_lst (pa_cons (pe_lst (pa_cons pe_int pa_nil)) pa_nil)) (pa_cons (pe_lst (pa_cons (pe_lst (pa_cons (pe_un un_neg pe_int) pa_nil)) (pa_cons (pe_lst (pa_cons pe_int pa_nil)) pa_nil))) (pa_cons (pe_lst (pa_cons (pe_lst (pa_cons pe_int pa_nil)) (pa_cons (pe_lst (pa_cons (pe_un un_neg pe_int) pa_nil)) (pa_cons (pe_lst (pa_cons pe_int pa_nil)) pa_nil)))) (pa_cons (pe_lst (pa_cons (pe_lst (pa_cons (pe_un un_neg pe_int) pa_nil)) (pa_cons (pe_lst (pa_cons pe_int pa_nil)) (pa_cons (pe_lst (pa_cons (pe_un un_neg pe_int) pa_nil)) (pa_cons (pe_lst (pa_cons pe_int pa_nil)) pa_nil))))) pa_nil))))))
    (pss_cons (ps_set (i := 3) sc__law_ready.nd rfl (Or.inl rfl) (pe_op op_cat (pv 3) (pe_lst (pa_cons (pe_lst (pa_cons (pe_lst (pa_cons pe_int pa_nil)) (pa_cons (pe_lst (pa_cons (pe_un un_neg pe_int) pa_nil)) (pa_cons (pe_lst (pa_cons pe_int pa_nil)) (pa_cons (pe_lst (pa_cons (pe_un un_neg pe_int) pa_nil)) (pa_cons (pe_lst (pa_cons pe_int pa_nil)) pa_nil)))))) (pa_cons (pe_lst (pa_cons (pe_lst (pa_cons (pe_un un_neg pe_int) pa_nil)) (pa_cons (pe_lst (pa_cons pe_int pa_nil)) (pa_cons (pe_lst (pa_cons (pe_un un_neg pe_int) pa_nil)) (pa_cons (pe_lst (pa_cons pe_int pa_nil)) (pa_cons (pe_lst (pa_cons (pe_un un_neg pe_int) pa_nil)) (pa_cons (pe_lst (pa_cons pe_int pa_nil)) pa_nil))))))) pa_nil)))))
    (pss_cons (ps_setC (i := 4) rfl (blkok rfl (sub_cons rfl sub_nil) (fv_cons 2 "_law_poly" (by decide) rfl (Or.inl rfl) (Or.inl rfl) ⟨_, rfl⟩ fv_nil)) (pi_range1 rfl T.z_range (pa_cons pe_int pa_nil)) (fun _ _ _ _ => (pe_tup (pa_cons (pe_call (FnOk.mono (ok__law_value T) (by decide)) hr rfl T.m__law_value T.F__law_value.kp T.b__law_value .nil pass0 (pa_cons (pv 1) (pa_cons (pv 0) pa_nil))) (pa_cons pe_int pa_nil)))) sc__law_ready.nd rfl rfl)
    (pss_cons (ps_set (i := 5) sc__law_ready.nd rfl (Or.inl rfl) (pe_callTy call_list_of rfl T.z_list bt_list (pa_cons (pv 2) pa_nil)))
    (pss_cons (ps_if (PW.pt (pw_or (pt_not (pt_val (pe_call (FnOk.mono (ok__law_row T) (by decide)) hr rfl T.m__law_row T.F__law_row.kp T.b__law_row .nil pass0 (pa_cons (pe_call (FnOk.mono (ok_poly_row T) (by decide)) hr rfl T.m_poly_row T.F_poly_row.kp T.b_poly_row .nil pass0 (pa_cons (pv 5) pa_nil)) (pa_cons (pe_ix ix_list (pv 3) (pe_callB call_len_seq rfl T.z_len bt_len (pa_cons (pv 2) pa_nil)) (fun _ _ => rfl)) (pa_cons (pe_slice sl_list (pv 4) po_none (po_some (pe_callB call_len_seq rfl T.z_len bt_len (pa_cons (pv 2) pa_nil)))) (pa_cons (pv 4) pa_nil))))))) (pw_or1 (pt_cmpR (op_neD hr.units) (pv 5) (pv 2) (nomark _))))) (pss_one (ps_ret pe_bl)) pss_nil)
    (pss_cons (ps_set (i := 4) sc__law_ready.nd rfl (Or.inl rfl) (pe_lst (pa_cons (pe_tup (pa_cons pe_int (pa_cons pe_int pa_nil))) pa_nil)))
    (pss_cons (ps_for PassesOwn.never rfl (pi_range1 rfl T.z_range (pa_cons pe_int pa_nil)) (pg_name (i := 6) sc__law_ready.nd rfl (Or.inl rfl)) (pss_one (ps_expr (pe_bm PySem.F.plainAttrs_list PySem.F.slot_list_append PySem.F.type_list_append mt_append (pv 4) (pa_cons (pe_call (FnOk.mono (ok__law_lowest T) (by decide)) hr rfl T.m__law_lowest T.F__law_lowest.kp T.b__law_lowest .nil pass0 (pa_cons (pe_op op_mulZ (pe_ix ix_tup (pe_ix ix_list (pv 4) (pv 6) (fun _ _ => rfl)) pe_int (fun _ _ => rfl)) (pe_ix ix_tup (pv 1) pe_int (fun _ _ => rfl))) (pa_cons (pe_op op_mulZ (pe_ix ix_tup (pe_ix ix_list (pv 4) (pv 6) (fun _ _ => rfl)) pe_int (fun _ _ => rfl)) (pe_ix ix_tup (pv 1) pe_int (fun _ _ => rfl))) pa_nil))) pa_nil)))))
    (pss_cons (ps_set (i := 7) sc__law_ready.nd rfl (Or.inl rfl) (pe_lst (pa_cons (pe_un un_neg (pe_ix ix_tup (pv 1) pe_int (fun _ _ => rfl))) pa_nil)))
    (pss_mid (ps_if (pt_cmpR op_eq (pe_ix ix_tup (pv 1) pe_int (fun _ _ => rfl)) pe_int (nomark _)) (pss_one (ps_set (i := 7) sc__law_ready.nd rfl (Or.inl rfl) (pe_lst pa_nil))) pss_nil)
    (pss_one (ps_ret (pe_call (FnOk.mono (ok__law_row T) (by decide)) hr rfl T.m__law_row T.F__law_row.kp T.b__law_row .nil pass0 (pa_cons (pe_call (FnOk.mono (ok_power_row T) (by decide)) hr rfl T.m_power_row T.F_power_row.kp T.b_power_row .nil pass0 (pa_cons (pv 1) pa_nil)) (pa_cons (pe_lst (pa_cons (pv 7) (pa_cons (pe_lst (pa_cons (pe_ix ix_tup (pv 1) pe_int (fun _ _ => rfl)) pa_nil)) pa_nil))) (pa_cons (pe_lst (pa_cons (pe_tup (pa_cons pe_int (pa_cons pe_int pa_nil))) pa_nil)) (pa_cons (pv 4) pa_nil))))))))))))))))))), ?_⟩
  dsimp only [a_seq]
  k_typeOf
  refine ⟨a, ns, 0, rfl, hA, _, rfl, ⟨by decide, by decide⟩, by decide, by omega, by omega, fun D nD => ?_⟩
  obtain ⟨k0, hk0, k05⟩ : ∃ k : Nat, (cell ns 0 / 60 % 6).toNat = k ∧ k ≤ 5 := ⟨_, rfl, by omega⟩
  rw [hk0]
  refine cl_rngP (Pd := fun v => Bd 110 v) nD (by omega) (fun j hj Hx R' sx hR => ?_) fun ys ly by' F1 H1 s1 nF1 eF1 => ?_
  · have e0 : (56 : Int) + (0 + (j : Int)) = ((56 + j : Nat) : Int) := by omega
    (iterate 3 (k_units; (try simp only [bst, Option.getD_some, e0])); k_units)
    exact ⟨a, ns, 56 + j, rfl, sx.seq hA, _, rfl, fun n hn => hR n (Bd.of_lt hn (by decide))⟩
  obtain ⟨M, hM⟩ : ∃ M : L2.St → Hp → Prop, ∀ σ Hx, M σ Hx ↔ ∃ xs : List Int, σ = [some (V.ref a), some (V.ref q), some (V.ref F1), none, none, none, none, none] ∧ Hx F1 = some (.lst (xs.map V.int)) ∧ xs.length ≤ 5 ∧ (∀ x ∈ xs, Bd 110 x) ∧ Same H Hx := ⟨_, fun _ _ => Iff.rfl⟩
  refine mid_of M ?_ ?_
  · k_units
    refine ⟨_, .inl (SqL.of eF1), ?_⟩
    rw [List.length_map]
    have same : M [some (V.ref a), some (V.ref q), some (V.ref F1), none, none, none, none, none] H1 := (hM _ _).mpr ⟨ys, rfl, eF1, by omega, by', s1⟩
    refine ite2 (fun h => ?_) (fun h => same)
    have hne : ys ≠ [] := by intro z; rw [z] at h; simp at h
    refine ⟨_, SqL.of eF1, _, at_last hne, ?_⟩
    k_units
    refine ite2 (fun h0 => ?_) (fun h0 => same)
    refine ⟨_, eF1, ys.length - 1, ?_, (hM _ _).mpr ⟨ys.set (ys.length - 1) 4, rfl, by rw [upd_same, map_set], by rw [List.length_set]; omega, fun x hx => ?_, s1.more nF1⟩⟩
    · rw [List.length_map]
      unfold ixN
      rw [if_neg (by omega), if_pos (by omega)]
      congr 1; omega
    · rcases List.mem_or_eq_of_mem_set hx with y | y
      · exact by' x y
      · rw [y]; exact Bd.of_lt (m := 5) (by decide) (by decide)
  intro σ H2 hm
  obtain ⟨xs, rfl, eX, lx, bx, s2⟩ := (hM _ _).mp hm
  clear hm hM M by' ly eF1 s1 nF1
  rw [a_seq, a_asg]
  refine (ag2_cons (nll (ag_cons (nl_one 1) ag_nil) (by decide)) (ag2_cons (nll (ag_cons (nl_neg 1) (ag_cons (nl_one 1) ag_nil)) (by decide)) (ag2_cons (nll (ag_cons (nl_one 1) (ag_cons (nl_neg 2) (ag_cons (nl_one 1) ag_nil))) (by decide)) (ag2_cons (nll (ag_cons (nl_neg 1) (ag_cons (nl_one 3) (ag_cons (nl_neg 3) (ag_cons (nl_one 1) ag_nil)))) (by decide)) ag2_nil)))) _ _ _ fun As H3 s3 lA hAs => ⟨Nat.le_of_lt (by rw [List.length_map, lA]; exact small1000 (by decide)), fun S3 nS3 => ?_⟩
  have u3 := same_upd nS3 (.lst (As.map V.ref))
  have s23 := s3.trans u3
  have eS3 : upd H3 S3 (.lst (As.map V.ref)) S3 = some (.lst (As.map V.ref)) := upd_same
  have hA3 : ∀ (i : Nat) (A : Addr) (ps : List (List Int)), As[i]? = some A → _ → LAt (upd H3 S3 (.lst (As.map V.ref))) A ps := fun i A ps h1 h2 => (hAs i A ps h1 h2).same u3
  generalize upd H3 S3 (.lst (As.map V.ref)) = G3 at s23 eS3 hA3 ⊢
  clear hAs u3 nS3 s3
  dsimp only [a_gname, List.set_cons_succ, List.set_cons_zero]
  rw [a_seq, a_asg, a_op]
  refine ⟨V.ref S3, rfl, ?_⟩
  refine (ag2_cons (nll (ag_cons (nl_one 1) (ag_cons (nl_neg 4) (ag_cons (nl_one 6) (ag_cons (nl_neg 4) (ag_cons (nl_one 1) ag_nil))))) (by decide)) (ag2_cons (nll (ag_cons (nl_neg 1) (ag_cons (nl_one 5) (ag_cons (nl_neg 10) (ag_cons (nl_one 10) (ag_cons (nl_neg 5) (ag_cons (nl_one 1) ag_nil)))))) (by decide)) ag2_nil)) _ _ _ fun Bs H4 s4 lB hBs => ⟨Nat.le_of_lt (by rw [List.length_map, lB]; exact small1000 (by decide)), fun S4 nS4 => ?_⟩
  have u4 := same_upd nS4 (.lst (Bs.map V.ref))
  have s34 := s4.trans u4
  have eS4 : upd H4 S4 (.lst (Bs.map V.ref)) S4 = some (.lst (Bs.map V.ref)) := upd_same
  have hB4 : ∀ (i : Nat) (A : Addr) (ps : List (List Int)), Bs[i]? = some A → _ → LAt (upd H4 S4 (.lst (Bs.map V.ref))) A ps := fun i A ps h1 h2 => (hBs i A ps h1 h2).same u4
  generalize upd H4 S4 (.lst (Bs.map V.ref)) = G4 at s34 eS4 hB4 ⊢
  clear hBs u4 nS4 s4
  refine ⟨S3, S4, As.map V.ref, Bs.map V.ref, rfl, rfl, s34 _ _ eS3, eS4, Nat.le_of_lt (by rw [List.length_map, List.length_map, lA, lB]; exact small1000 (by decide)), fun S5 nS5 => ?_⟩
  have u5 := same_upd nS5 (.lst (As.map V.ref ++ Bs.map V.ref))
  have eS5 : upd G4 S5 (.lst (As.map V.ref ++ Bs.map V.ref)) S5 = some (.lst ((As ++ Bs).map V.ref)) := by rw [upd_same, List.map_append]
  have hAB : ∀ k : Nat, k ≤ 5 → ∃ A : Addr, (As ++ Bs)[k]? = some A ∧ LAt (upd G4 S5 (.lst (As.map V.ref ++ Bs.map V.ref))) A ((stp k).map fun c => [c]) := fun k hk => by
    have l4 : As.length = 4 := lA
    have l2 : Bs.length = 2 := lB
    by_cases h : k < 4
    · have hk' : k < As.length := by omega
      refine ⟨As[k], by rw [List.getElem?_append_left hk', List.getElem?_eq_getElem hk'], ((hA3 k _ _ (List.getElem?_eq_getElem hk') ?_).same s34).same u5⟩
      match k, h with
      | 0, _ => rfl
      | 1, _ => rfl
      | 2, _ => rfl
      | 3, _ => rfl
    · have hk' : k - 4 < Bs.length := by omega
      refine ⟨Bs[k - 4], by rw [List.getElem?_append_right (by omega), l4, List.getElem?_eq_getElem hk'], (hB4 (k - 4) _ _ (List.getElem?_eq_getElem hk') ?_).same u5⟩
      match k, h, hk with
      | 4, _, _ => rfl
      | 5, _, _ => rfl
  have s05 := s2.trans (s23.trans (s34.trans u5))
  have eX5 := (s23.trans (s34.trans u5)) _ _ eX
  generalize upd G4 S5 (.lst (As.map V.ref ++ Bs.map V.ref)) = H5 at eS5 hAB s05 eX5 ⊢
  clear hA3 hB4 eS3 eS4 nS5 u5 s34 s23
  dsimp only [a_gname, List.set_cons_succ, List.set_cons_zero]
  dsimp only [a_seq]
  k_typeOf
  refine ⟨by decide, by decide, fun D1 nD1 => ?_⟩
  have e13 : Int.toNat 13 = 13 := rfl
  rw [e13]
  refine cl_rngT (fun n : Nat => (val (n : Int) xs, (1 : Int))) nD1 (by omega) (fun j Hx R' hj sx hR => ?_) fun du H6 s6 eDu tDu => ?_
  · have e0 : (0 : Int) + (j : Int) = (j : Int) := Int.zero_add _
    (iterate 3 (k_units; (try simp only [bst, Option.getD_some, e0])); k_units)
    exact ⟨F1, xs, (j : Int), 110, 4, rfl, SqL.of (sx _ _ eX5), by omega, bx, Bd.of_lt (m := 13) (by omega) (by decide), by decide, by decide, fun r nr => hR r nr⟩
  have tDu' : TH H6 du (pvs xs 13) := tDu
  have eX6 := s6 _ _ eX5
  have eS6 := s6 _ _ eS5
  have hAB6 : ∀ k : Nat, k ≤ 5 → ∃ A : Addr, (As ++ Bs)[k]? = some A ∧ LAt H6 A ((stp k).map fun c => [c]) := fun k hk => by
    obtain ⟨A, h1, h2⟩ := hAB k hk
    exact ⟨A, h1, h2.same s6⟩
  have s06 := s05.trans s6
  clear hAB tDu eX5 eS5 s05 s6 nD1
  dsimp only [a_seq]
  k_typeOf
  refine ⟨_, .inl (SqL.of eX6), fun Hd nHd => ?_⟩
  have u7 := same_upd nHd (.lst (xs.map V.int))
  have eHd : upd H6 Hd (.lst (xs.map V.int)) Hd = some (.lst (xs.map V.int)) := upd_same
  generalize upd H6 Hd (.lst (xs.map V.int)) = H7 at u7 eHd ⊢
  have eX7 := u7 _ _ eX6
  have eS7 := u7 _ _ eS6
  have eDu7 := u7 _ _ eDu
  have tDu7 := tDu'.same u7
  have s07 := s06.trans u7
  obtain ⟨Ak, hAk, hAk2⟩ := hAB6 xs.length lx
  obtain ⟨ru, eAk, lAk⟩ := hAk2.same u7
  clear hAB6 hAk2 tDu' eX6 eS6 eDu s06 u7 nHd
  dsimp only [a_seq]
  k_typeOf
  refine ⟨Hd, xs, xs.length, rfl, SqL.of eHd, rfl, lx, bx, fun x' dx' R' L' as' cs' H8 s8 nR nL nas row => ?_⟩
  refine ⟨_, .inl (SqL.of (s8 _ _ eX7)), ?_⟩
  rw [List.length_map]
  refine ⟨_, SqL.of (s8 _ _ eS7), V.ref Ak, atI_nat (by rw [List.getElem?_map, hAk]; rfl), ?_⟩
  refine ⟨_, .inl (SqL.of (s8 _ _ eX7)), _, SqL.of (s8 _ _ eDu7), fun Fi nFi => ?_⟩
  rw [List.length_map, cut_upto]
  have u9 := same_upd nFi (.lst ((du.take xs.length).map V.ref))
  have eFi : upd H8 Fi (.lst ((du.take xs.length).map V.ref)) Fi = some (.lst ((du.take xs.length).map V.ref)) := upd_same
  generalize upd H8 Fi (.lst ((du.take xs.length).map V.ref)) = H9 at u9 eFi ⊢
  have s89 := s8.trans u9
  obtain ⟨C0, g13⟩ := cr_poly (xs := xs) rfl lx bx
  have lk := stp_len lx
  have lpv := pvs_len xs 13
  have n7 : D1 ≠ L' := fun hz => by rw [← hz, eDu7] at nL; cases nL
  have cy : ∀ i, (pvs xs xs.length).length + i ≤ (pvs xs 13).length → carryF ((stp xs.length).map fun c => [c]) (pvs xs xs.length) i = (pvs xs 13).take ((pvs xs xs.length).length + i) := fun i hi => by
    rw [pvs_len] at hi ⊢
    rw [← pvs_take xs (show xs.length ≤ 13 by omega)]
    refine carry_take (m := 0) C0.I.1 (fun f hf => (g13.1 f hf).1) (fun n hn => kp_diff rfl lx ?_) (fun n _ => val_clr C0.c1 (by omega)) (by rw [List.length_map, lk]; omega) i hi
    rw [List.length_map, lk, lpv] at hn; exact hn
  refine ⟨x', dx', R', L', Ak, Fi, D1, as', cs', ru, du.take xs.length, du, (stp xs.length).map fun c => [c], pvs xs xs.length, pvs xs 13, 0, 0, 13, rfl, row.same u9, s89 _ _ eAk, lAk.same s89, eFi, ?_, s89 _ _ eDu7, n7, ?_, by rw [lpv]; exact Nat.le_refl _, by rw [lpv]; decide, cy, g13, by rw [pvs_len, lpv]; omega, fun H10 cs10 k10 sx10 r10 hk10 => ⟨true, rfl, ?_⟩⟩
  · have e : ((stp xs.length).map fun c => [c]).length - 1 + 0 = xs.length := by rw [List.length_map, lk]; omega
    rw [e]
    exact (tDu7.same s89).take _
  · rw [List.take_of_length_le (by rw [lpv]; exact Nat.le_refl _)]; exact tDu7.same s89
  rw [if_neg (by decide)]
  have kp10 : ∀ b o, H7 b = some o → H10 b = some o := fun b o e => sx10 b o (fun hz => by rw [List.mem_singleton.mp hz, nL] at e; cases e) (s89 _ _ e)
  have s710 : Same H7 H10 := kp10
  obtain ⟨w1, w2, w3⟩ : PyData.canLay0 (.list (xs.map PyData.int)) = true ∧ PyData.depth (.list (xs.map PyData.int)) ≤ 64 ∧ PyData.eqv (.list (xs.map PyData.int)) (.list (xs.map PyData.int)) = true := ⟨lay_self xs, dep_self xs, by rw [eqv_dec]; simp⟩
  refine ⟨.list (xs.map PyData.int), DV.ints (SqL.of (s710 _ _ eHd)), .list (xs.map PyData.int), DV.ints (SqL.of (s710 _ _ eX7)), w1, w1, w2, ?_⟩
  rw [w3, if_neg (by decide)]
  have s010 := s07.trans s710
  clear row r10 sx10 hk10 cy g13 C0 eFi u9 s89 s8 nR nL nas kp10 s710
  dsimp only [a_seq]
  k_typeOf
  refine ⟨by decide, fun p1 np1 => ⟨by decide, fun D2 nD2 => ?_⟩⟩
  have v1 := same_upd np1 (.tup [V.int 1, V.int 1])
  have v2 := same_upd nD2 (.lst [V.ref p1])
  have ep1 := v2 _ _ (upd_same (H := H10) (a := p1) (o := .tup [V.int 1, V.int 1]))
  have eD2 : upd (upd H10 p1 (.tup [V.int 1, V.int 1])) D2 (.lst [V.ref p1]) D2 = some (.lst ([p1].map V.ref)) := upd_same
  have nD2' : H10 D2 = none := v1.free nD2
  have v12 := v1.trans v2
  generalize upd (upd H10 p1 (.tup [V.int 1, V.int 1])) D2 (.lst [V.ref p1]) = G at ep1 eD2 v12 ⊢
  have th1 : TH G [p1] (pws g 1) := by
    have e : pws g 1 = [((1 : Int), (1 : Int))] := by unfold pws pwf; simp
    rw [e]
    exact (TH.nil _).snoc (f := (1, 1)) ep1
  clear v1 v2 np1 nD2 ep1
  have hq10 := s010.seqT hq
  have f1 := hF.1
  have bp : ∀ (c : Int), Bd 110 c → ∀ n : Nat, Bd (110 * n + 1) (c ^ n) := fun c hc n => by
    induction n with
    | zero => rw [Int.pow_zero]; exact Bd.one (by decide)
    | succ n ih => rw [Int.pow_succ]; exact (ih.mul hc).mono (by omega)
  dsimp only [a_seq]
  k_typeOf
  have e8 : Int.toNat 8 = 8 := rfl
  rw [e8]
  refine ⟨by decide, by decide, ?_⟩
  obtain ⟨Pv, hPv⟩ : ∃ Pv : Nat → L2.St → Hp → Prop, ∀ i σ H', Pv i σ H' ↔ ∃ (bs : List Addr) (r6 : Option V), σ = [some (V.ref a), some (V.ref q), some (V.ref F1), some (V.ref S5), some (V.ref D2), some (V.ref Hd), r6, none] ∧ H' D2 = some (.lst (bs.map V.ref)) ∧ TH H' bs (pws g (i + 1)) ∧ Same H10 H' := ⟨_, fun _ _ _ => Iff.rfl⟩
  refine lp_range Pv ((hPv _ _ _).mpr ⟨[p1], none, rfl, eD2, th1, v12⟩) ?_ ?_
  · intro i σ H' hi hp
    obtain ⟨bs, r6, rfl, eD, th, sx⟩ := (hPv _ _ _).mp hp
    have e0 : (0 : Int) + (i : Int) = (i : Int) := Int.zero_add _
    have lb := th.len
    rw [pws_len] at lb
    have hib : i < bs.length := by omega
    have hgi : (pws g (i + 1))[i]? = some (pwf g i) := by unfold pws; rw [List.getElem?_map, List.getElem?_range (by omega)]; rfl
    have eb := th.get i _ _ (List.getElem?_eq_getElem hib) hgi
    have hq' := sx.seqT hq10
    have b1 : Bd 900 (g.1 ^ i) := (bp _ g1 i).mono (by omega)
    have b2 : Bd 900 (g.2 ^ i) := (bp _ g2 i).mono (by omega)
    have pp := pwf_pos f1 i
    have atb : atI (bs.map V.ref) (i : Int) = some (V.ref bs[i]) := atI_nat (by rw [List.getElem?_map, List.getElem?_eq_getElem hib]; rfl)
    (iterate 3 (k_units; (try simp only [e0])); k_units)
    refine ⟨a_tyL (SqL.of eD), _, SqL.of eD, _, atb, _, rfl, _, SqT.of eb, _, rfl, _, hq', _, rfl, _, rfl, _, rfl, b1.fits g1 (by decide), _, SqL.of eD, _, atb, _, rfl, _, SqT.of eb, _, rfl, _, hq', _, rfl, _, rfl, _, rfl, b2.fits g2 (by decide), ?_⟩
    refine ⟨_, _, rfl, (by have h3 := one_le_mul pp f1; show g.2 ^ i * g.2 ≠ 0; omega), (b2.mul g2).mono (by decide), fun x y y1 cg e3 _ _ r nr => ?_⟩
    have ez : (x, y) = pwf g (i + 1) := by
      refine frc_uniq ⟨y1, cg⟩ (pwf_frc hF (i + 1)) ?_
      show x * g.2 ^ (i + 1) = g.1 ^ (i + 1) * y
      rw [Int.pow_succ, Int.pow_succ]; exact e3
    have ur := same_upd nr (.tup [V.int x, V.int y])
    refine ⟨_, ur _ _ eD, by rw [List.length_map]; exact small1000 (by omega), (hPv _ _ _).mpr ⟨bs ++ [r], _, rfl, by rw [upd_same]; simp, ?_, (sx.trans ur).more nD2'⟩⟩
    have et : pws g (i + 1 + 1) = pws g (i + 1) ++ [(x, y)] := by unfold pws; rw [List.range_succ, List.map_append, ez]; rfl
    rw [et]
    exact TH.upd (TH.snoc (th.same ur) upd_same) (ur _ _ eD)
  intro σ H11 hp
  obtain ⟨bs, r6, rfl, eD11, th11, s11⟩ := (hPv _ _ _).mp hp
  clear hp hPv Pv eD2 th1 v12
  have hq11 := s11.seqT hq10
  dsimp only [a_seq]
  k_typeOf
  refine ⟨_, hq11, _, rfl, _, rfl, by decide, fun F7 nF7 => ?_⟩
  have u12 := same_upd nF7 (.lst [V.int (-g.1)])
  have eF7 : upd H11 F7 (.lst [V.int (-g.1)]) F7 = some (.lst ([-g.1].map V.int)) := upd_same
  generalize upd H11 F7 (.lst [V.int (-g.1)]) = H12 at u12 eF7 ⊢
  obtain ⟨M, hM⟩ : ∃ M : L2.St → Hp → Prop, ∀ σ Hx, M σ Hx ↔ ∃ F : Addr, σ = [some (V.ref a), some (V.ref q), some (V.ref F1), some (V.ref S5), some (V.ref D2), some (V.ref Hd), r6, some (V.ref F)] ∧ Hx F = some (.lst ((trim [-g.1]).map V.int)) ∧ Same H11 Hx := ⟨_, fun _ _ => Iff.rfl⟩
  refine mid_of M ?_ ?_
  · k_units
    refine ⟨_, u12.seqT hq11, _, rfl, ?_⟩
    k_units
    refine ite2 (fun h0 => ⟨Nat.zero_le _, fun F8 n8 => (hM _ _).mpr ⟨F8, rfl, ?_, u12.trans (same_upd n8 _)⟩⟩) (fun h0 => (hM _ _).mpr ⟨F7, rfl, ?_, u12⟩)
    · rw [upd_same, h0]; rfl
    · rw [trim_nmlI (nml_of_last (.inr (by show -g.1 ≠ 0; omega)))]; exact eF7
  intro σ H13 hm
  obtain ⟨F, rfl, eF, s13⟩ := (hM _ _).mp hm
  clear hm hM M u12 eF7 nF7
  have hq13 := s13.seqT hq11
  k_units
  refine ⟨q, g, rfl, hq13, hF, g1, g2, fun x' dx' R' L' as' cs' H14 s14 nR nL nas row => ?_⟩
  refine ⟨_, s14.seqT hq13, _, rfl, by decide, fun p1 np1 => ⟨by decide, fun p2 np2 => ⟨by decide, fun p3 np3 => ⟨by decide, fun p4 np4 => ?_⟩⟩⟩⟩
  have u1 := same_upd np1 (.lst [V.int g.2])
  have u2 := same_upd np2 (.lst [V.ref F, V.ref p1])
  have u3 := same_upd np3 (.tup [V.int 1, V.int 1])
  have u4 := same_upd np4 (.lst [V.ref p3])
  have e1 := (u2.trans (u3.trans u4)) _ _ (upd_same (H := H14) (a := p1) (o := .lst ([g.2].map V.int)))
  have e2 := (u3.trans u4) _ _ (upd_same (H := upd H14 p1 (.lst [V.int g.2])) (a := p2) (o := .lst ([F, p1].map V.ref)))
  have e3 := u4 _ _ (upd_same (H := upd (upd H14 p1 (.lst [V.int g.2])) p2 (.lst [V.ref F, V.ref p1])) (a := p3) (o := .tup [V.int 1, V.int 1]))
  have e4 : upd (upd (upd (upd H14 p1 (.lst [V.int g.2])) p2 (.lst [V.ref F, V.ref p1])) p3 (.tup [V.int 1, V.int 1])) p4 (.lst [V.ref p3]) p4 = some (.lst ([p3].map V.ref)) := upd_same
  have u14 := u1.trans (u2.trans (u3.trans u4))
  generalize upd (upd (upd (upd H14 p1 (.lst [V.int g.2])) p2 (.lst [V.ref F, V.ref p1])) p3 (.tup [V.int 1, V.int 1])) p4 (.lst [V.ref p3]) = G2 at e1 e2 e3 e4 u14 ⊢
  have s1415 := s14.trans u14
  have eF15 := s1415 _ _ eF
  have eD13 := s13 _ _ eD11
  have eD15 := s1415 _ _ eD13
  have th15 := (th11.same s13).same s1415
  obtain ⟨C0, g9⟩ := cr_powr hF g1 g2
  have lpw := pws_len g 9
  have n7 : D2 ≠ L' := fun hz => by rw [← hz, eD13] at nL; cases nL
  have p1e : pws g 1 = [((1 : Int), (1 : Int))] := by unfold pws pwf; simp
  have tk1 : (pws g 9).take 1 = [((1 : Int), (1 : Int))] := by
    rw [← p1e]; unfold pws; rw [← List.map_take, List.take_range]; rfl
  have hqv : ∀ n, val n (trim [-g.1]) = -g.1 := fun n => by rw [val_trim]; simp [val]
  have cy : ∀ i, [((1 : Int), (1 : Int))].length + i ≤ (pws g 9).length → carryF [trim [-g.1], [g.2]] [(1, 1)] i = (pws g 9).take ([((1 : Int), (1 : Int))].length + i) := fun i hi => by
    rw [← tk1]
    refine carry_take (m := 0) (by simp) (fun f hf => (g9.1 f hf).1) (fun n hn => kp_pws f1 hqv (by rw [lpw] at hn; simpa using hn)) (fun n _ => val_clr C0.c1 (by omega)) (by simp) i ?_
    simpa using hi
  refine ⟨x', dx', R', L', p2, p4, D2, as', cs', [F, p1], [p3], bs, [trim [-g.1], [g.2]], [(1, 1)], pws g 9, 0, 0, 9, rfl, row.same u14, e2, ((LH.nil _).snoc eF15).snoc e1, e4, ?_, eD15, n7, ?_, by rw [lpw]; exact Nat.le_refl _, by rw [lpw]; decide, cy, g9, by rw [lpw]; decide, fun H16 cs16 k16 sx16 r16 hk16 => ?_⟩
  · show TH G2 [p3] ((pws g 9).take 1)
    rw [tk1]
    exact (TH.nil _).snoc (f := (1, 1)) e3
  · rw [List.take_of_length_le (by rw [lpw]; exact Nat.le_refl _)]; exact th15
  have s013 := s010.trans (s11.trans s13)
  exact z H16 fun b o e => sx16 b o (fun hz => by
    have e13 := s013 _ _ e
    rw [List.mem_singleton.mp hz, nL] at e13; cases e13) (s1415 _ _ (s013 _ _ e))
theorem TH.part {H : Hp} {as : List Addr} {fs : List (Int × Int)} (h : TH H as fs) (n k : Nat) : TH H ((as.drop n).take k) ((fs.drop n).take k) := by
  refine ⟨by simp [h.len], fun i a f h1 h2 => ?_⟩
  have hi : i < k := by
    have := (List.getElem?_eq_some_iff.mp h1).1
    rw [List.length_take] at this; omega
  rw [List.getElem?_take_of_lt hi, List.getElem?_drop] at h1 h2
  exact h.get (n + i) a f h1 h2
theorem Rul.reach {f l rs : List Int} (h : Rul f l rs) : ∃ m : Nat, m ≤ 31 ∧ clr m (mulR rs l) = true ∧ ∀ j : Nat, j < m → clr j (mulR rs l) = false := by
  rcases h.rs with rfl | ⟨r, rfl, r0, r30⟩
  · exact ⟨0, by decide, h.cl, fun j hj => by omega⟩
  · refine ⟨(r + 1).toNat, by omega, clr_yes (clr_mono (by omega) h.cl) (fun x hx => by rw [List.mem_singleton.mp hx]; omega), fun j hj => clr_nope (r := r) (by simp) (by omega)⟩
theorem cr_of {ps : List (List Int)} {gs : List (Int × Int)} {m s : Nat} (I : IsRule ps) (l6 : ps.length ≤ 6) (b : ∀ p ∈ ps, p.length ≤ 64 ∧ ∀ x ∈ p, Bd 200 x) (m60 : m ≤ 60) (c1 : clr m (ps.getLastD []) = true) (c2 : ∀ j : Nat, j < m → clr j (ps.getLastD []) = false) (hg : Good gs) (hk : ∀ n, n + ps.length ≤ gs.length → Kp ps gs n) (h1 : ps.length - 1 + m ≤ s) (h2 : s ≤ gs.length) : Cr ps (gs.take s) m := by
  have lp := List.length_pos_iff.mpr I.1
  exact ⟨I, l6, b, m60, c1, c2, by rw [List.length_take]; omega, hg.sub fun g hg' => List.mem_of_mem_take hg', fun n hn => by
    rw [List.length_take] at hn
    exact kp_take (by omega) (hk n (by omega))⟩
def spLaw (K : PySem.W.Frag) : Sp := fun vs H Q _ => ∃ (a : Addr) (ns : List Int), vs = [.ref a] ∧ SqL K H a (ns.map V.int) ∧ ns.length ≤ 63 ∧ ∀ H', Q (.bl true) H'
theorem ok_law {P : Program} {w : World} {K : PySem.W.Frag} {mg : Str → Option Value} {base : Heap} (T : Tx K mg) : FnOk P w K mg base CX0 12 T.a_law T.fd_law ["_law_script"] (spLaw K) := by
  refine T.F_law.ok sc_law (fun vs H Q E h => ?_) (fun cdv A outer s H vs Q E hr h => ?_)
  · obtain ⟨a, ns, rfl, _⟩ := h
    rfl
  obtain ⟨a, ns, rfl, hA, hl, q⟩ := h
  refine ⟨_, ((pss_cons (ps_set (i := 1) sc_law.nd rfl (Or.inl rfl) (pe_call (FnOk.mono (ok__law_rule T) (by decide)) hr rfl T.m__law_rule T.F__law_rule.kp T.b__law_rule .nil pass0 (pa_cons (pv 0) pa_nil)))
    (pss_cons (ps_set (i := 2) sc_law.nd rfl (Or.inr rfl) (pe_op op_mod (pe_op op_fdiv (pe_call (FnOk.mono (ok__law_cell_at T) (by decide)) hr rfl T.m__law_cell_at T.F__law_cell_at.kp T.b__law_cell_at .nil pass0 (pa_cons (pv 0) (pa_cons pe_int pa_nil))) pe_int) pe_int))
    (pss_mid (ps_if (pt_cmpR op_eq (pe_op op_mod (pe_call (FnOk.mono (ok__law_cell_at T) (by decide)) hr rfl T.m__law_cell_at T.F__law_cell_at.kp T.b__law_cell_at .nil pass0 (pa_cons (pv 0) (pa_cons pe_int pa_nil))) pe_int) pe_int (nomark _)) (pss_one (ps_set (i := 2) sc_law.nd rfl (Or.inr rfl) pe_int)) pss_nil)
    (pss_cons (ps_set (i := 3) sc_law.nd rfl (Or.inl rfl) (pe_op op_add pe_int (pe_call (FnOk.mono (ok__law_reach T) (by decide)) hr rfl T.m__law_reach T.F__law_reach.kp T.b__law_reach .nil pass0 (pa_cons (pe_ix ix_list (pv 1) pe_int (fun _ _ => rfl)) pa_nil))))
    (pss_cons (ps_set (i := 4) sc_law.nd rfl (Or.inl rfl) (pe_call (FnOk.mono (ok__law_values T) (by decide)) hr rfl T.m__law_values T.F__law_values.kp T.b__law_values .nil pass0 (pa_cons (pv 0) (pa_cons (pv 1) (pa_cons (pe_callB (call_max2 rfl) rfl T.z_max bt_max (pa_cons (pe_op op_add (pv 2) pe_int) (pa_cons (pv 3) pa_nil))) pa_nil)))))
    (pss_cons (ps_set (i := 5) sc_law.nd rfl (Or.inl rfl) (pe_make T.mk_Row (FnOk.mono (ok_Row___init__ T) (by decide)) hr rfl T.mc_Row T.b_Row___init__ .nil pass0 (pa_cons (pe_lcomp rfl (blkok rfl sub_nil fv_nil) (pi_list (pv 1)) (fun _ _ _ _ => (pe_callTy (call_list_ofK (K := K) rfl) rfl T.z_list bt_list (pa_cons (pv 0) pa_nil)))) (pa_cons (pe_callTy call_list_of rfl T.z_list bt_list (pa_cons (pe_slice sl_list (pv 4) po_none (po_some (pv 3))) pa_nil)) pa_nil))))
    (pss_cons (ps_set (i := 6) sc_law.nd rfl (Or.inr rfl) (pe_call (FnOk.mono (ok__law_lowest T) (by decide)) hr rfl T.m__law_lowest T.F__law_lowest.kp T.b__law_lowest .nil pass0 (pa_cons (pe_call (FnOk.mono (ok__law_number T) (by decide)) hr rfl T.m__law_number T.F__law_number.kp T.b__law_number .nil pass0 (pa_cons (pe_call (FnOk.mono (ok__law_cell_at T) (by decide)) hr rfl T.m__law_cell_at T.F__law_cell_at.kp T.b__law_cell_at .nil pass0 (pa_cons (pv 0) (pa_cons pe_int pa_nil))) pa_nil)) (pa_cons (pe_op op_add (pe_callB call_abs rfl T.z_abs bt_abs (pa_cons (pe_call (FnOk.mono (ok__law_number T) (by decide)) hr rfl T.m__law_number T.F__law_number.kp T.b__law_number .nil pass0 (pa_cons (pe_call (FnOk.mono (ok__law_cell_at T) (by decide)) hr rfl T.m__law_cell_at T.F__law_cell_at.kp T.b__law_cell_at .nil pass0 (pa_cons (pv 0) (pa_cons pe_int pa_nil))) pa_nil)) pa_nil)) pe_int) pa_nil))))
    (pss_cons (ps_setC (i := 7) rfl (blkok rfl (sub_cons rfl sub_nil) (fv_cons 2 "_law_by" (by decide) rfl (Or.inl rfl) (Or.inl rfl) ⟨_, rfl⟩ fv_nil)) (pi_list (pv 1)) (fun _ _ _ _ => (pe_call (FnOk.mono (ok__law_moved T) (by decide)) hr rfl T.m__law_moved T.F__law_moved.kp T.b__law_moved .nil pass0 (pa_cons (pv 0) (pa_cons (pv 1) pa_nil)))) sc_law.nd rfl rfl)
    (pss_cons (ps_set (i := 8) sc_law.nd rfl (Or.inl rfl) (pe_op op_add pe_int (pe_call (FnOk.mono (ok__law_reach T) (by decide)) hr rfl T.m__law_reach T.F__law_reach.kp T.b__law_reach .nil pass0 (pa_cons (pe_ix ix_list (pv 7) pe_int (fun _ _ => rfl)) pa_nil))))
    (pss_cons (ps_if (pt_not (pt_val (pe_call (FnOk.mono (ok__law_row T) (by decide)) hr rfl T.m__law_row T.F__law_row.kp T.b__law_row .nil pass0 (pa_cons (pe_call (FnOk.mono (ok_row_ahead T) (by decide)) hr rfl T.m_row_ahead T.F_row_ahead.kp T.b_row_ahead .nil pass0 (pa_cons (pv 5) (pa_cons (pv 2) pa_nil))) (pa_cons (pv 7) (pa_cons (pe_slice sl_list (pv 4) (po_some (pv 2)) (po_some (pe_op op_add (pv 2) (pv 8)))) (pa_cons (pe_slice sl_list (pv 4) (po_some (pv 2)) (po_some (pe_op op_add (pv 2) pe_int))) pa_nil))))))) (pss_one (ps_ret pe_bl)) pss_nil)
    (pss_cons (ps_setC (i := 9) rfl (blkok rfl (sub_cons rfl sub_nil) (fv_cons 6 "_law_fraction" (by decide) rfl (Or.inl rfl) (Or.inl rfl) ⟨_, rfl⟩ fv_nil)) (pi_list (pv 4)) (fun _ _ _ _ => (pe_call (FnOk.mono (ok__law_lowest T) (by decide)) hr rfl T.m__law_lowest T.F__law_lowest.kp T.b__law_lowest .nil pass0 (pa_cons (pe_op op_mulZ (pe_ix (ix_tupK (K := K) rfl) (pv 0) pe_int (fun _ _ => rfl)) (pe_ix (ix_tupK (K := K) rfl) (pv 1) pe_int (fun _ _ => rfl))) (pa_cons (pe_op op_mulZ (pe_ix (ix_tupK (K := K) rfl) (pv 0) pe_int (fun _ _ => rfl)) (pe_ix (ix_tupK (K := K) rfl) (pv 1) pe_int (fun _ _ => rfl))) pa_nil)))) sc_law.nd rfl rfl)
    (pss_cons (ps_if (pt_not (pt_val (pe_call (FnOk.mono (ok__law_row T) (by decide)) hr rfl T.m__law_row T.F__law_row.kp T.b__law_row .nil pass0 (pa_cons (pe_call (FnOk.mono (ok_row_scaled T) (by decide)) hr rfl T.m_row_scaled T.F_row_scaled.kp T.b_row_scaled .nil pass0 (pa_cons (pv 5) (pa_cons (pv 6) pa_nil))) (pa_cons (pv 1) (pa_cons (pe_slice sl_list (pv 9) po_none (po_some (pv 3))) (pa_cons (pe_slice sl_list (pv 9) po_none (po_some pe_int)) pa_nil))))))) (pss_one (ps_ret pe_bl)) pss_nil)
    (pss_one (ps_ret (pe_and (pe_call (FnOk.mono (ok__law_ready T) (by decide)) hr rfl T.m__law_ready T.F__law_ready.kp T.b__law_ready .nil pass0 (pa_cons (pv 0) (pa_cons (pv 6) pa_nil))) (pe_one (pe_call (FnOk.mono (ok__law_row T) (by decide)) hr rfl T.m__law_row T.F__law_row.kp T.b__law_row .nil pass0 (pa_cons (pv 5) (pa_cons (pv 1) (pa_cons (pe_slice sl_list (pv 4) po_none (po_some (pv 3))) (pa_cons (pe_slice sl_list (pv 4) po_none (po_some pe_int)) pa_nil)))))))))))))))))))))), ?_⟩
  dsimp only [a_seq]
  k_typeOf
  refine ⟨a, ns, rfl, hA, fun f l rs ru R as H1 s1 eR lh1 => ?_⟩
  dsimp only [a_seq]
  k_typeOf
  refine ⟨a, ns, 0, rfl, s1.seq hA, _, rfl, ⟨by decide, by decide⟩, by decide, ?_⟩
  obtain ⟨b0, hb0, b09⟩ : ∃ b : Nat, cell ns 0 / 6 % 10 = (b : Int) ∧ b ≤ 60 := ⟨(cell ns 0 / 6 % 10).toNat, by omega, by omega⟩
  rw [hb0]
  obtain ⟨M, hM⟩ : ∃ M : L2.St → Hp → Prop, ∀ σ Hx, M σ Hx ↔ ∃ b : Nat, σ = [some (V.ref a), some (V.ref R), some (V.int (b : Int)), none, none, none, none, none, none, none] ∧ b ≤ 60 ∧ Hx = H1 := ⟨_, fun _ _ => Iff.rfl⟩
  refine mid_of M ?_ ?_
  · k_units
    refine ⟨a, ns, 0, rfl, s1.seq hA, _, rfl, by decide, ite2 (fun h => (hM _ _).mpr ⟨60, rfl, by decide, rfl⟩) (fun h => (hM _ _).mpr ⟨b0, rfl, b09, rfl⟩)⟩
  intro σ H1' hm
  obtain ⟨b, rfl, b60, rfl⟩ := (hM _ _).mp hm
  clear hm hM M hb0 b09
  obtain ⟨m, m31, c1, c2⟩ := ru.reach
  have llh := lh1.len
  match as, llh with
  | [A0, A1], _ =>
  have eA1 := lh1.get 1 A1 _ rfl rfl
  obtain ⟨l0, b0'⟩ := ru.b f (by simp)
  obtain ⟨l1, b1'⟩ := ru.b l (by simp)
  have nel : mulR rs l ≠ [] := mulR_ne rs l ru.nl ru.ne
  dsimp only [a_seq]
  k_typeOf
  refine ⟨_, SqL.of eR, V.ref A1, rfl, A1, mulR rs l, m, rfl, SqL.of eA1, nel, by omega, fun x hx => (b1' x hx).mono (by decide), by omega, c1, c2, fun H2 s2 => ⟨_, rfl, ?_⟩⟩
  rw [show (1 : Int) + (m : Int) = ((1 + m : Nat) : Int) by omega]
  have s12 := s1.trans s2
  have eR2 := s2 _ _ eR
  have lh2 := lh1.same s2
  clear s1 s2 eR lh1 eA1
  dsimp only [a_seq]
  k_typeOf
  rw [if_neg (by omega), show (b : Int) + 32 = ((b + 32 : Nat) : Int) by omega]
  refine ⟨a, R, [A0, A1], ns, f, l, rs, b + 32, rfl, s12.seq hA, eR2, lh2, ru, by omega, fun fs D bs H3 s3 eD th lf iv kp => ?_⟩
  have eR3 := s3 _ _ eR2
  have lh3 := lh2.same s3
  have s13 := s12.trans s3
  clear eR2 lh2 s12 s3
  obtain ⟨ps, hps⟩ : ∃ ps, [mulR rs f, mulR rs l] = ps := ⟨_, rfl⟩
  have lps : ps.length = 2 := by rw [← hps]; rfl
  have lst : ps.getLastD [] = mulR rs l := by rw [← hps]; rfl
  rw [hps] at lh3 kp
  have mem : ∀ p ∈ ps, (p = mulR rs f ∨ p = mulR rs l) := fun p hp => by rw [← hps] at hp; simpa using hp
  have b3 : ∀ p ∈ ps, p.length ≤ 3 ∧ ∀ x ∈ p, Bd 40 x := fun p hp => by
    rcases mem p hp with rfl | rfl
    · exact ⟨l0, b0'⟩
    · exact ⟨l1, b1'⟩
  have nml : ∀ p ∈ ps, Nml p := fun p hp => by
    rcases mem p hp with rfl | rfl
    · exact mulR_nml rs f ru.nf
    · exact mulR_nml rs l ru.nl
  have gl : ps.getLast? = some (mulR rs l) := by rw [← hps]; rfl
  have IR : IsRule ps := ⟨(fun hz => by rw [hz] at lps; cases lps), fun p hp => by rw [gl] at hp; rw [← Option.some.inj hp]; exact nel, nml⟩
  rw [← lst] at c1 c2
  have b200 : ∀ p ∈ ps, p.length ≤ 64 ∧ ∀ x ∈ p, Bd 200 x := fun p hp => ⟨by have := (b3 p hp).1; omega, fun x hx => ((b3 p hp).2 x hx).mono (by decide)⟩
  have gfs : Good fs := iv.good (by omega) (by omega)
  have kpr : ∀ n, n + ps.length ≤ fs.length → Kp ps fs n := fun n hn => kp n (by omega)
  have frs : ∀ u ∈ fs, Frc u := fun u hu => (gfs.1 u hu).1
  have C0 := cr_of (s := 1 + m) IR (by omega) b200 (by omega) c1 c2 gfs kpr (by omega) (by omega)
  have cy : ∀ i, (fs.take (1 + m)).length + i ≤ fs.length → carryF ps (fs.take (1 + m)) i = fs.take ((fs.take (1 + m)).length + i) := fun i hi => by
    have e : (fs.take (1 + m)).length = 1 + m := by rw [List.length_take]; omega
    rw [e] at hi ⊢
    exact carry_take (m := m) IR.1 frs kpr (fun n hn => val_clr c1 (by omega)) (by omega) i hi
  clear kp mem
  dsimp only [a_seq]
  k_typeOf
  refine ⟨⟨_, SqL.of eR3⟩, fun D1 nD1 => cl_ll nD1 (SqL.of eR3) lh3.ll (ds := ps) rfl (by omega) (fun i b' p d Hx R' hp hd sx hB hR => ?_) fun F rb H4 s4 nF eF lhr _ _ _ => ?_⟩
  · obtain rfl : p = d := by rw [hp] at hd; exact Option.some.inj hd
    (iterate 3 (k_units; (try simp only [bst])); k_units)
    exact ⟨_, .inl hB, fun l nl => hR l _ (same_upd nl _) nl upd_same⟩
  refine ⟨_, SqL.of (s4 _ _ eD), fun p1 np1 => ?_⟩
  rw [cut_upto]
  have u1 := same_upd np1 (.lst ((bs.take (1 + m)).map V.ref))
  refine ⟨_, .inl (SqL.of upd_same), fun p2 np2 => ?_⟩
  have u2 := same_upd np2 (.lst ((bs.take (1 + m)).map V.ref))
  have e2 : upd (upd H4 p1 (.lst ((bs.take (1 + m)).map V.ref))) p2 (.lst ((bs.take (1 + m)).map V.ref)) p2 = some (.lst ((bs.take (1 + m)).map V.ref)) := upd_same
  have s5 := s4.trans (u1.trans u2)
  have eF5 := (u1.trans u2) _ _ eF
  have lhr5 := lhr.same (u1.trans u2)
  generalize upd (upd H4 p1 (.lst ((bs.take (1 + m)).map V.ref))) p2 (.lst ((bs.take (1 + m)).map V.ref)) = H5 at e2 s5 eF5 lhr5 ⊢
  clear u1 u2 np1 np2 s4 eF lhr nF
  intro x dx nx nd ne
  have th5 := (th.take (1 + m)).same s5
  have sm := same_make (C := T.c_Row) nx nd ne
  have l4 : (fs.take (1 + m)).length ≤ 480 := by rw [List.length_take]; omega
  refine ⟨x, dx, F, p2, rb, bs.take (1 + m), ps, fs.take (1 + m), m, rfl, upd_same, SqL.of (sm _ _ eF5), (lhr5.same sm).ll, SqL.of (sm _ _ e2), th5.same sm, l4, C0, fun Rr Lr asr H6 kpx nRr nLr nRLr nasr nRar ninr _ hxr hRr hLr hKr => ⟨rfl, ?_⟩⟩
  obtain ⟨s6, row, nRr', nLr', nasr'⟩ := row_made nx nd ne kpx nRr nLr nasr nRLr ninr hxr hRr hLr hKr th5 l4 C0
  have s36 := s5.trans s6
  have nL3 := s5.free nLr'
  have eR6 := s36 _ _ eR3
  have lh6 := lh3.same s36
  have eD6 := s36 _ _ eD
  have th6 := th.same s36
  have s16 := s13.trans s36
  have nDL : D ≠ Lr := fun hz => by rw [← hz, eD] at nL3; cases nL3
  have nRL : R ≠ Lr := fun hz => by rw [← hz, eR3] at nL3; cases nL3
  have nAL : ∀ c ∈ [A0, A1], c ≠ Lr := fun c hc hz => (lh3.notin nL3) (by rw [← hz]; exact hc)
  have nLH := s13.free nL3
  clear sm kpx nRr nLr nasr hxr hRr hLr hKr eF5 lhr5 e2 s5 s6 s36 th5 nRr' nLr' nasr' s13
  dsimp only [a_seq]
  k_typeOf
  refine ⟨a, ns, 3, rfl, s16.seq hA, _, rfl, fun n1 hn1 => ⟨a, ns, 4, rfl, s16.seq hA, _, rfl, fun n2 hn2 => ⟨_, rfl, ?_⟩⟩⟩
  rw [abs_nat]
  refine ⟨n1, _, rfl, by omega, Bd.of_lt (m := 10 ^ 30 + 1) (by omega) (Nat.le_trans (show 10 ^ 30 + 1 ≤ 2 ^ 110 by decide) (Nat.pow_le_pow_right (by decide) (by decide))), fun g0 g1 gp gc ge gl1 gl2 rf nrf => ?_⟩
  obtain ⟨g, hg⟩ : ∃ g : Int × Int, (g0, g1) = g := ⟨_, rfl⟩
  have e01 : g0 = g.1 := by rw [← hg]
  have e02 : g1 = g.2 := by rw [← hg]
  rw [e01] at gl1 gc
  rw [e02] at gl2 gc gp
  have gF : Frc g := ⟨gp, gc⟩
  have gb1 : Bd 110 g.1 := Bd.of_lt (m := 10 ^ 30) (by omega) (by decide)
  have gb2 : Bd 110 g.2 := Bd.of_lt (m := 10 ^ 30 + 1) (by omega) (by decide)
  rw [e01, e02]
  have u7 := same_upd nrf (.tup [V.int g.1, V.int g.2])
  have eg7 : upd H6 rf (.tup [V.int g.1, V.int g.2]) rf = some (.tup [V.int g.1, V.int g.2]) := upd_same
  generalize upd H6 rf (.tup [V.int g.1, V.int g.2]) = H7 at u7 eg7 ⊢
  have row7 := row.same u7
  have eR7 := u7 _ _ eR6
  have lh7 := lh6.same u7
  have eD7 := u7 _ _ eD6
  have th7 := th6.same u7
  have s17 := s16.trans u7
  clear hg e01 e02 ge gl1 gl2 hn1 hn2 u7 row eR6 lh6 eD6 th6 s16 nrf th eD eR3 lh3 hps
  have b7 : Bd 7 (b : Int) := Bd.of_lt (m := 61) (by omega) (by decide)
  dsimp only [a_seq]
  k_typeOf
  refine ⟨⟨_, SqL.of eR7⟩, fun D2 nD2 => cl_ll nD2 (SqL.of eR7) lh7.ll (ds := ps.map (shiftL (b : Int))) (by simp) (by omega) (fun i b' p d Hx R' hp hd sx hB hR => ?_) fun Mv mv H8 s8 nMv eMv lmv nmv _ _ => ?_⟩
  · have e : d = shiftL (b : Int) p := by rw [List.getElem?_map, hp] at hd; exact (Option.some.inj hd).symm
    have hpm := List.mem_of_getElem? hp
    (iterate 3 (k_units; (try simp only [bst, Option.getD_some])); k_units)
    refine ⟨b', p, (b : Int), 40, 7, rfl, hB, (b200 p hpm).1, (b3 p hpm).2, b7, by decide, ?_⟩
    rw [← e]; exact hR
  have nMvL : Mv ≠ Lr := fun hz => by rw [hz, row7.hK] at nMv; cases nMv
  have nmvL : ∀ c ∈ mv, c ∉ [Lr] := fun c hc hz => by have e := nmv c hc; rw [List.mem_singleton.mp hz, row7.hK] at e; cases e
  have row8 := row7.same s8
  have eR8 := s8 _ _ eR7
  have lh8 := lh7.same s8
  have eD8 := s8 _ _ eD7
  have th8 := th7.same s8
  have eg8 := s8 _ _ eg7
  have s18 := s17.trans s8
  clear row7 eR7 lh7 eD7 th7 eg7 s17
  have lmv' := lmv.len
  rw [List.length_map, lps] at lmv'
  match mv, lmv' with
  | [M0, M1], _ =>
  have glS : (ps.map (shiftL (b : Int))).getLastD [] = shiftL (b : Int) (ps.getLastD []) := lastD_map IR.1
  have lS : (ps.map (shiftL (b : Int))).length = 2 := by rw [List.length_map, lps]
  have g1S : (ps.map (shiftL (b : Int)))[1]? = some (shiftL (b : Int) (ps.getLastD [])) := by
    have e1 : (ps.map (shiftL (b : Int))).getLast? = some (shiftL (b : Int) (ps.getLastD [])) := by
      rw [List.getLast?_map, gl, lst]; rfl
    rw [List.getLast?_eq_getElem?, lS] at e1; exact e1
  have eM1 := lmv.get 1 M1 _ rfl g1S
  have lastm : ps.getLastD [] ∈ ps := by
    rw [lst]; exact List.mem_of_getLast? gl
  have bS : ∀ p ∈ ps, (shiftL (b : Int) p).length ≤ 3 ∧ ∀ x ∈ shiftL (b : Int) p, Bd 60 x := fun p hp => ⟨by rw [shift_len]; exact (b3 p hp).1, fun x hx => shift_bd3 b7 (b3 p hp).1 (b3 p hp).2 x hx⟩
  have c1S : clr ((m - b : Nat) : Int) (shiftL (b : Int) (ps.getLastD [])) = true := by
    rw [clr_shift]; exact clr_mono (by omega) c1
  have c2S : ∀ j : Nat, j < m - b → clr j (shiftL (b : Int) (ps.getLastD [])) = false := fun j hj => by
    rw [clr_shift]
    have := c2 (j + b) (by omega)
    rwa [show ((j + b : Nat) : Int) = (j : Int) + (b : Int) by omega] at this
  have neS : shiftL (b : Int) (ps.getLastD []) ≠ [] := fun hz => by
    have h2 := congrArg List.length hz
    rw [shift_len, lst] at h2
    exact nel (List.eq_nil_of_length_eq_zero h2)
  dsimp only [a_seq]
  k_typeOf
  refine ⟨_, SqL.of eMv, V.ref M1, rfl, M1, shiftL (b : Int) (ps.getLastD []), m - b, rfl, SqL.of eM1, neS, by have := (bS _ lastm).1; omega, fun x hx => ((bS _ lastm).2 x hx).mono (by decide), by omega, c1S, c2S, fun H9 s9 => ⟨_, rfl, ?_⟩⟩
  rw [show (1 : Int) + ((m - b : Nat) : Int) = ((1 + (m - b) : Nat) : Int) by omega]
  have row9 := row8.same s9
  have eR9 := s9 _ _ eR8
  have lh9 := lh8.same s9
  have eD9 := s9 _ _ eD8
  have th9 := th8.same s9
  have eg9 := s9 _ _ eg8
  have eMv9 := s9 _ _ eMv
  have lmv9 := lmv.same s9
  have s19 := s18.trans s9
  clear row8 eR8 lh8 eD8 th8 eg8 eMv lmv s18 s8 s9 eM1 nMv
  dsimp only [a_seq]
  k_typeOf
  have lfd : (fs.drop b).length = 32 := by rw [List.length_drop]; omega
  have gdr : Good (fs.drop b) := gfs.sub fun u hu => List.mem_of_mem_drop hu
  have kpS : ∀ n, n + (ps.map (shiftL (b : Int))).length ≤ (fs.drop b).length → Kp (ps.map (shiftL (b : Int))) (fs.drop b) n := fun n hn => kp_shift.mpr (kpr (n + b) (by rw [List.length_map, lfd] at hn; omega))
  have IRS : IsRule (ps.map (shiftL (b : Int))) := by
    refine ⟨?_, ?_, ?_⟩
    · intro hz; rw [hz] at lS; cases lS
    · intro p hp
      rw [List.getLast?_map, gl] at hp
      rw [← Option.some.inj hp, ← lst]; exact neS
    · intro p hp
      obtain ⟨p', hp', rfl⟩ := List.mem_map.mp hp
      exact shift_nml (nml p' hp')
  have CS : Cr (ps.map (shiftL (b : Int))) ((fs.drop b).take (ps.length - 1 + (m - b))) (m - b) := cr_of IRS (by omega) (fun p hp => by
      obtain ⟨p', hp', rfl⟩ := List.mem_map.mp hp
      exact ⟨by have := (bS p' hp').1; omega, fun x hx => ((bS p' hp').2 x hx).mono (by decide)⟩) (by omega) (by rw [glS]; exact c1S) (by rw [glS]; exact c2S) gdr kpS (by omega) (by omega)
  have cyS : ∀ i, ((fs.drop b).take (ps.length - 1 + (m - b))).length + i ≤ (fs.drop b).length → carryF (ps.map (shiftL (b : Int))) ((fs.drop b).take (ps.length - 1 + (m - b))) i = (fs.drop b).take (((fs.drop b).take (ps.length - 1 + (m - b))).length + i) := fun i hi => by
    have e : ((fs.drop b).take (ps.length - 1 + (m - b))).length = ps.length - 1 + (m - b) := by rw [List.length_take]; omega
    rw [e] at hi ⊢
    exact carry_take (m := m - b) IRS.1 (fun u hu => (gdr.1 u hu).1) kpS (fun n hn => by rw [glS]; exact val_clr c1S (by omega)) (by omega) i hi
  have l1m : (fs.take (1 + m)).length = 1 + m := by rw [List.length_take]; omega
  refine ⟨x, dx, Rr, Lr, asr, bs.take (1 + m), ps, fs.take (1 + m), fs, m, 0, b, m - b, rfl, row9, b60, fun p hp => (b3 p hp).1, cy, gfs, by omega, by omega, by omega, CS, fun x' dx' R' L' as' cs' csx k' H10 sx nR' nL' nas' rowx hk' row' => ?_⟩
  have lL9 : Lsts [Lr] H9 := fun c hc => by rw [List.mem_singleton.mp hc]; exact ⟨_, row9.hK⟩
  have eD10 := sx _ _ (fun hz => nDL (List.mem_singleton.mp hz)) eD9
  have th10 := th9.kept sx lL9
  have eMv10 := sx _ _ (fun hz => nMvL (List.mem_singleton.mp hz)) eMv9
  have lmv10 := lmv9.kept sx nmvL
  have hbl : b ≤ bs.length := by rw [th9.len, lf]; omega
  refine ⟨_, SqL.of eD10, fun p1 np1 => ?_⟩
  rw [cut_some _ _ _ hbl]
  have u1 := same_upd np1 (.lst (((bs.drop b).take (1 + (m - b))).map V.ref))
  refine ⟨_, SqL.of (u1 _ _ eD10), fun p2 np2 => ?_⟩
  rw [show (b : Int) + 13 = (b : Int) + ((13 : Nat) : Int) from rfl, cut_some _ _ _ hbl]
  have u2 := same_upd np2 (.lst (((bs.drop b).take 13).map V.ref))
  have e1 := u2 _ _ (upd_same (H := H10) (a := p1) (o := .lst (((bs.drop b).take (1 + (m - b))).map V.ref)))
  have e2 : upd (upd H10 p1 (.lst (((bs.drop b).take (1 + (m - b))).map V.ref))) p2 (.lst (((bs.drop b).take 13).map V.ref)) p2 = some (.lst (((bs.drop b).take 13).map V.ref)) := upd_same
  have u12 := u1.trans u2
  have nL2p : p2 ≠ L' := fun hz => by rw [hz, u1 _ _ row'.hK] at np2; cases np2
  generalize upd (upd H10 p1 (.lst (((bs.drop b).take (1 + (m - b))).map V.ref))) p2 (.lst (((bs.drop b).take 13).map V.ref)) = H11 at e1 e2 u12 ⊢
  clear u1 u2 np1 np2
  have row11 := row'.same u12
  refine ⟨x', dx', R', L', Mv, p1, p2, as', cs', [M0, M1], (bs.drop b).take (1 + (m - b)), (bs.drop b).take 13, ps.map (shiftL (b : Int)), (fs.drop b).take (ps.length - 1 + (m - b)), fs.drop b, m - b, 0, 13, rfl, row11, u12 _ _ eMv10, lmv10.same u12, e1, ?_, e2, nL2p, (th10.part b 13).same u12, by omega, by omega, cyS, gdr, by rw [List.length_take]; omega, fun H12 cs12 k12 sx12 r12 hk12 => ⟨true, rfl, ?_⟩⟩
  · rw [lS, show 2 - 1 + (m - b) = 1 + (m - b) by omega]
    exact (th10.part b (1 + (m - b))).same u12
  rw [if_neg (by decide)]
  have x912 : SameX [Lr] H9 H12 := fun c o hc e => sx12 c o (fun hz => by rw [List.mem_singleton.mp hz, nL'] at e; cases e) (u12 _ _ (sx c o hc e))
  have lL11 : Lsts [L'] H11 := fun c hc => by rw [List.mem_singleton.mp hc]; exact ⟨_, row11.hK⟩
  have rowX := (rowx.same u12).keep sx12 lL11 (fun hz => by have e := row9.hR; rw [List.mem_singleton.mp hz, nL'] at e; cases e) (fun c hc hz => (row9.hL.notin nL') (by rw [← List.mem_singleton.mp hz]; exact hc)) (fun hz => by have e := row9.hK; rw [List.mem_singleton.mp hz, nL'] at e; cases e)
  have eR12 := x912 _ _ (fun hz => nRL (List.mem_singleton.mp hz)) eR9
  have lh12 := lh9.kept x912 (fun c hc hz => nAL c hc (List.mem_singleton.mp hz))
  have eD12 := x912 _ _ (fun hz => nDL (List.mem_singleton.mp hz)) eD9
  have th12 := th9.kept x912 lL9
  have eg12 := x912 _ _ (lL9.tup eg9) eg9
  have s112 : Same H H12 := fun c o e => x912 c o (fun hz => by rw [List.mem_singleton.mp hz, nLH] at e; cases e) (s19 _ _ e)
  clear row11 row' r12 sx12 hk12 cyS CS IRS kpS gdr eD10 th10 eMv10 lmv10 eMv9 lmv9 e1 e2 u12 rowx sx x912 lL11 lL9 eR9 lh9 eD9 th9 eg9 s19 nL' nR' nas' row9 C0
  dsimp only [a_seq]
  k_typeOf
  have l1f : fs.length ≤ 100 := by omega
  refine ⟨⟨_, SqL.of eD12⟩, fun D3 nD3 => cl_tl (scl g) nD3 (SqL.of eD12) th12 (by omega) (fun c u Hx R2 hu sx' hc hR => ?_) fun pr H13 s13' ePr tPr => ?_⟩
  · (iterate 3 (k_units; (try simp only [bst, Option.getD_some])); k_units)
    have Fu := frs u hu
    have bu1 := (gfs.1 u hu).2
    have bu2 : Bd 2900 u.2 := by
      obtain ⟨_, E1, q1, q2, q3⟩ := gfs
      exact Nat.lt_of_le_of_lt (Nat.le_of_dvd (by omega) (Int.natAbs_dvd_natAbs.mpr (q3 _ hu))) q2
    have hq' := SqT.of (K := K) (sx' _ _ eg12)
    have pos := one_le_mul Fu.1 gp
    refine ⟨_, SqT.of hc, _, rfl, _, hq', _, rfl, _, rfl, _, rfl, bu1.fits gb1 (by decide), _, SqT.of hc, _, rfl, _, hq', _, rfl, _, rfl, _, rfl, bu2.fits gb2 (by decide), _, _, rfl, by omega, (bu2.mul gb2).mono (by decide), fun x y y1 cg e3 _ _ r nr => ?_⟩
    have e : (x, y) = scl g u := low_uniq ⟨y1, cg⟩ (by omega) e3
    have hR' := hR r nr
    rw [← e] at hR'; exact hR'
  have row13 := rowX.same s13'
  have eR13 := s13' _ _ eR12
  have lh13 := lh12.same s13'
  have eD13 := s13' _ _ eD12
  have th13 := th12.same s13'
  have eg13 := s13' _ _ eg12
  have s113 := s112.trans s13'
  clear rowX eR12 lh12 eD12 th12 eg12 s112 s13' nD3
  have gsc : Good (fs.map (scl g)) := iv.goodS (by omega) (by omega) (gb1.mono (by decide)) gp (gb2.mono (by decide))
  have kpc : ∀ n, n + ps.length ≤ (fs.map (scl g)).length → Kp ps (fs.map (scl g)) n := fun n hn => kp_scl gp frs (kpr n (by rw [List.length_map] at hn; exact hn))
  have lsc : (fs.map (scl g)).length = b + 32 := by rw [List.length_map, lf]
  have ec : (carryF ps (fs.take (1 + m)) k').take (ps.length - 1 + m) = fs.take (1 + m) := by
    rw [cy k' hk', List.take_take, lps, l1m, Nat.min_eq_left (by omega)]
  have emt : (fs.take (1 + m)).map (scl g) = (fs.map (scl g)).take (1 + m) := List.map_take
  have Csc : Cr ps ((fs.map (scl g)).take (1 + m)) m := cr_of IR (by omega) b200 (by omega) c1 c2 gsc kpc (by omega) (by omega)
  have cyc : ∀ i, ((fs.map (scl g)).take (1 + m)).length + i ≤ (fs.map (scl g)).length → carryF ps ((fs.map (scl g)).take (1 + m)) i = (fs.map (scl g)).take (((fs.map (scl g)).take (1 + m)).length + i) := fun i hi => by
    have e : ((fs.map (scl g)).take (1 + m)).length = 1 + m := by rw [List.length_take]; omega
    rw [e] at hi ⊢
    exact carry_take (m := m) IR.1 (fun u hu => (gsc.1 u hu).1) kpc (fun n hn => val_clr c1 (by omega)) (by omega) i hi
  dsimp only [a_seq]
  k_typeOf
  refine ⟨x, dx, Rr, Lr, rf, asr, csx, ps, fs.take (1 + m), g, m, k', rfl, row13, SqT.of eg13, gp, gb1.mono (by decide), gb2.mono (by decide), ?_, ?_, fun x2 dx2 R2 L2 as2 cs2 H14 s14 nR2 nL2 nas2 row2 => ?_⟩
  · intro u hu
    rw [ec] at hu
    have hu' := List.mem_of_mem_take hu
    refine ⟨frs u hu', (gfs.1 u hu').2, ?_⟩
    obtain ⟨E1, q1, q2, q3⟩ := iv.E
    exact Nat.lt_of_le_of_lt (Nat.le_of_dvd (by omega) (Int.natAbs_dvd_natAbs.mpr (q3 _ hu'))) (q2.mono (by omega))
  · rw [ec, emt]; exact Csc
  rw [ec, emt] at row2
  have e13c : ∀ zs : List Addr, cutV (zs.map V.ref) none (some (13 : Int)) = (zs.take 13).map V.ref := fun zs => cut_upto zs 13
  refine ⟨_, SqL.of (s14 _ _ ePr), fun p1 np1 => ?_⟩
  rw [cut_upto]
  have u1 := same_upd np1 (.lst ((pr.take (1 + m)).map V.ref))
  refine ⟨_, SqL.of (u1 _ _ (s14 _ _ ePr)), fun p2 np2 => ?_⟩
  rw [e13c]
  have u2 := same_upd np2 (.lst ((pr.take 13).map V.ref))
  have e1 := u2 _ _ (upd_same (H := H14) (a := p1) (o := .lst ((pr.take (1 + m)).map V.ref)))
  have e2 : upd (upd H14 p1 (.lst ((pr.take (1 + m)).map V.ref))) p2 (.lst ((pr.take 13).map V.ref)) p2 = some (.lst ((pr.take 13).map V.ref)) := upd_same
  have u12 := u1.trans u2
  have n2L : p2 ≠ L2 := fun hz => by rw [hz, u1 _ _ row2.hK] at np2; cases np2
  generalize upd (upd H14 p1 (.lst ((pr.take (1 + m)).map V.ref))) p2 (.lst ((pr.take 13).map V.ref)) = H15 at e1 e2 u12 ⊢
  have s1315 := s14.trans u12
  have row15 := row2.same u12
  refine ⟨x2, dx2, R2, L2, R, p1, p2, as2, cs2, [A0, A1], pr.take (1 + m), pr.take 13, ps, (fs.map (scl g)).take (1 + m), fs.map (scl g), m, 0, 13, rfl, row15, s1315 _ _ eR13, lh13.same s1315, e1, ?_, e2, n2L, (tPr.take 13).same s1315, by omega, by omega, cyc, gsc, by rw [List.length_take]; omega, fun H16 cs16 k16 sx16 r16 hk16 => ⟨true, rfl, ?_⟩⟩
  · rw [lps, show 2 - 1 + m = 1 + m by omega]
    exact (tPr.take (1 + m)).same s1315
  rw [if_neg (by decide)]
  have s1316 : Same H13 H16 := fun c o e => sx16 c o (fun hz => by rw [List.mem_singleton.mp hz, nL2] at e; cases e) (s1315 _ _ e)
  have row16 := row13.same s1316
  have eR16 := s1316 _ _ eR13
  have lh16 := lh13.same s1316
  have eD16 := s1316 _ _ eD13
  have th16 := th13.same s1316
  have eg16 := s1316 _ _ eg13
  have s116 := s113.trans s1316
  clear row15 row2 r16 sx16 hk16 cyc Csc kpc gsc e1 e2 u12 u1 u2 np1 np2 s1315 s14 row13 eR13 lh13 eD13 th13 eg13 s113 s1316 tPr ePr
  k_units
  refine ⟨a, rf, ns, g, rfl, s116.seq hA, SqT.of eg16, gF, gb1, gb2, fun H17 s17 => ⟨true, rfl, ?_⟩⟩
  rw [if_pos rfl]
  refine ⟨_, SqL.of (s17 _ _ eD16), fun p1 np1 => ?_⟩
  rw [cut_upto]
  have u1 := same_upd np1 (.lst ((bs.take (1 + m)).map V.ref))
  refine ⟨_, SqL.of (u1 _ _ (s17 _ _ eD16)), fun p2 np2 => ?_⟩
  rw [e13c]
  have u2 := same_upd np2 (.lst ((bs.take 13).map V.ref))
  have e1 := u2 _ _ (upd_same (H := H17) (a := p1) (o := .lst ((bs.take (1 + m)).map V.ref)))
  have e2 : upd (upd H17 p1 (.lst ((bs.take (1 + m)).map V.ref))) p2 (.lst ((bs.take 13).map V.ref)) p2 = some (.lst ((bs.take 13).map V.ref)) := upd_same
  have n2L : p2 ≠ Lr := fun hz => by rw [hz, u1 _ _ (s17 _ _ row16.hK)] at np2; cases np2
  have s1618 := s17.trans (u1.trans u2)
  generalize upd (upd H17 p1 (.lst ((bs.take (1 + m)).map V.ref))) p2 (.lst ((bs.take 13).map V.ref)) = H18 at e1 e2 s1618 ⊢
  refine ⟨x, dx, Rr, Lr, R, p1, p2, asr, csx, [A0, A1], bs.take (1 + m), bs.take 13, ps, fs.take (1 + m), fs, m, k', 13, rfl, row16.same s1618, s1618 _ _ eR16, lh16.same s1618, e1, ?_, e2, n2L, (th16.take 13).same s1618, by omega, by omega, cy, gfs, hk', fun H19 _ _ _ _ _ => q H19⟩
  rw [lps, show 2 - 1 + m = 1 + m by omega]
  exact (th16.take (1 + m)).same s1618
theorem ln_1 {us : List Value} (h : us.length = 1) : ∃ x0, us = [x0] := by
  match us, h with
  | [x0], _ => exact ⟨x0, rfl⟩
theorem ln_2 {us : List Value} (h : us.length = 2) : ∃ x0 x1, us = [x0, x1] := by
  match us, h with
  | [x0, x1], _ => exact ⟨x0, x1, rfl⟩
theorem ln_3 {us : List Value} (h : us.length = 3) : ∃ x0 x1 x2, us = [x0, x1, x2] := by
  match us, h with
  | [x0, x1, x2], _ => exact ⟨x0, x1, x2, rfl⟩
theorem ln_4 {us : List Value} (h : us.length = 4) : ∃ x0 x1 x2 x3, us = [x0, x1, x2, x3] := by
  match us, h with
  | [x0, x1, x2, x3], _ => exact ⟨x0, x1, x2, x3, rfl⟩
theorem all_mk {K : PySem.W.Frag} {h : Heap} {mg : Str → Option Value} {fa f0 f1 f2 f3 f4 f5 f6 f7 f8 f9 f10 f11 f12 f13 f14 f15 f16 f17 f18 f19 f20 f21 f22 f23 f24 f25 f26 f27 f28 f29 f30 f31 f32 f33 f34 f35 f36 f37 : Addr} (X : K.In h) (G : h.Ns mainGlobals mg) (hfa : mg "law" = some (.ref fa))
    {od0 an0 : Option Addr} {sl0 : Array (Option Value)} {oc0 kV0 dc0 pm0 cd0 ct0 : Value}
    (a0 : PySem.W.nsIn K mainGlobals "trimmed" = some (some (.ref f0))) (l0 : K.lookup f0 = some ⟨oc0, od0, .func (PySem.W.fnOf "trimmed" "trimmed" (defArgs s_trimmed) (defBody s_trimmed) (defScope s_trimmed) .none kV0 dc0 pm0 an0 cd0 ct0), sl0⟩) (c0 : PySem.W.codeIn K cd0 "trimmed" = true) (k0 : PySem.W.keepIn K (.ref f0) = true)
    {od1 an1 : Option Addr} {sl1 : Array (Option Value)} {oc1 kV1 dc1 pm1 cd1 ct1 : Value}
    (a1 : PySem.W.nsIn K mainGlobals "poly_times" = some (some (.ref f1))) (l1 : K.lookup f1 = some ⟨oc1, od1, .func (PySem.W.fnOf "poly_times" "poly_times" (defArgs s_poly_times) (defBody s_poly_times) (defScope s_poly_times) .none kV1 dc1 pm1 an1 cd1 ct1), sl1⟩) (c1 : PySem.W.codeIn K cd1 "poly_times" = true) (k1 : PySem.W.keepIn K (.ref f1) = true)
    {od2 an2 : Option Addr} {sl2 : Array (Option Value)} {oc2 kV2 dc2 pm2 cd2 ct2 : Value}
    (a2 : PySem.W.nsIn K mainGlobals "shifted" = some (some (.ref f2))) (l2 : K.lookup f2 = some ⟨oc2, od2, .func (PySem.W.fnOf "shifted" "shifted" (defArgs s_shifted) (defBody s_shifted) (defScope s_shifted) .none kV2 dc2 pm2 an2 cd2 ct2), sl2⟩) (c2 : PySem.W.codeIn K cd2 "shifted" = true) (k2 : PySem.W.keepIn K (.ref f2) = true)
    {od3 an3 : Option Addr} {sl3 : Array (Option Value)} {oc3 kV3 dc3 pm3 cd3 ct3 : Value}
    (a3 : PySem.W.nsIn K mainGlobals "poly_value" = some (some (.ref f3))) (l3 : K.lookup f3 = some ⟨oc3, od3, .func (PySem.W.fnOf "poly_value" "poly_value" (defArgs s_poly_value) (defBody s_poly_value) (defScope s_poly_value) .none kV3 dc3 pm3 an3 cd3 ct3), sl3⟩) (c3 : PySem.W.codeIn K cd3 "poly_value" = true) (k3 : PySem.W.keepIn K (.ref f3) = true)
    {od4 an4 : Option Addr} {sl4 : Array (Option Value)} {oc4 kV4 dc4 pm4 cd4 ct4 : Value}
    (a4 : PySem.W.nsIn K mainGlobals "divisor" = some (some (.ref f4))) (l4 : K.lookup f4 = some ⟨oc4, od4, .func (PySem.W.fnOf "divisor" "divisor" (defArgs s_divisor) (defBody s_divisor) (defScope s_divisor) .none kV4 dc4 pm4 an4 cd4 ct4), sl4⟩) (c4 : PySem.W.codeIn K cd4 "divisor" = true) (k4 : PySem.W.keepIn K (.ref f4) = true)
    {od5 an5 : Option Addr} {sl5 : Array (Option Value)} {oc5 kV5 dc5 pm5 cd5 ct5 : Value}
    (a5 : PySem.W.nsIn K mainGlobals "ratio" = some (some (.ref f5))) (l5 : K.lookup f5 = some ⟨oc5, od5, .func (PySem.W.fnOf "ratio" "ratio" (defArgs s_ratio) (defBody s_ratio) (defScope s_ratio) .none kV5 dc5 pm5 an5 cd5 ct5), sl5⟩) (c5 : PySem.W.codeIn K cd5 "ratio" = true) (k5 : PySem.W.keepIn K (.ref f5) = true)
    {od6 an6 : Option Addr} {sl6 : Array (Option Value)} {oc6 kV6 dc6 pm6 cd6 ct6 : Value}
    (a6 : PySem.W.nsIn K mainGlobals "multiplied" = some (some (.ref f6))) (l6 : K.lookup f6 = some ⟨oc6, od6, .func (PySem.W.fnOf "multiplied" "multiplied" (defArgs s_multiplied) (defBody s_multiplied) (defScope s_multiplied) .none kV6 dc6 pm6 an6 cd6 ct6), sl6⟩) (c6 : PySem.W.codeIn K cd6 "multiplied" = true) (k6 : PySem.W.keepIn K (.ref f6) = true)
    {od7 an7 : Option Addr} {sl7 : Array (Option Value)} {oc7 kV7 dc7 pm7 cd7 ct7 : Value}
    (a7 : PySem.W.nsIn K mainGlobals "clear" = some (some (.ref f7))) (l7 : K.lookup f7 = some ⟨oc7, od7, .func (PySem.W.fnOf "clear" "clear" (defArgs s_clear) (defBody s_clear) (defScope s_clear) .none kV7 dc7 pm7 an7 cd7 ct7), sl7⟩) (c7 : PySem.W.codeIn K cd7 "clear" = true) (k7 : PySem.W.keepIn K (.ref f7) = true)
    {od8 an8 : Option Addr} {sl8 : Array (Option Value)} {oc8 kV8 dc8 pm8 cd8 ct8 : Value}
    (a8 : PySem.W.nsIn K mainGlobals "reach" = some (some (.ref f8))) (l8 : K.lookup f8 = some ⟨oc8, od8, .func (PySem.W.fnOf "reach" "reach" (defArgs s_reach) (defBody s_reach) (defScope s_reach) .none kV8 dc8 pm8 an8 cd8 ct8), sl8⟩) (c8 : PySem.W.codeIn K cd8 "reach" = true) (k8 : PySem.W.keepIn K (.ref f8) = true)
    {od9 an9 : Option Addr} {sl9 : Array (Option Value)} {oc9 kV9 dc9 pm9 cd9 ct9 : Value}
    (a9 : PySem.W.nsIn K mainGlobals "order_of" = some (some (.ref f9))) (l9 : K.lookup f9 = some ⟨oc9, od9, .func (PySem.W.fnOf "order_of" "order_of" (defArgs s_order_of) (defBody s_order_of) (defScope s_order_of) .none kV9 dc9 pm9 an9 cd9 ct9), sl9⟩) (c9 : PySem.W.codeIn K cd9 "order_of" = true) (k9 : PySem.W.keepIn K (.ref f9) = true)
    {od10 an10 : Option Addr} {sl10 : Array (Option Value)} {oc10 kV10 dc10 pm10 cd10 ct10 : Value}
    (a10 : PySem.W.nsIn K mainGlobals "need_of" = some (some (.ref f10))) (l10 : K.lookup f10 = some ⟨oc10, od10, .func (PySem.W.fnOf "need_of" "need_of" (defArgs s_need_of) (defBody s_need_of) (defScope s_need_of) .none kV10 dc10 pm10 an10 cd10 ct10), sl10⟩) (c10 : PySem.W.codeIn K cd10 "need_of" = true) (k10 : PySem.W.keepIn K (.ref f10) = true)
    {od11 an11 : Option Addr} {sl11 : Array (Option Value)} {oc11 kV11 dc11 pm11 cd11 ct11 : Value}
    (a11 : PySem.W.nsIn K mainGlobals "weighted" = some (some (.ref f11))) (l11 : K.lookup f11 = some ⟨oc11, od11, .func (PySem.W.fnOf "weighted" "weighted" (defArgs s_weighted) (defBody s_weighted) (defScope s_weighted) .none kV11 dc11 pm11 an11 cd11 ct11), sl11⟩) (c11 : PySem.W.codeIn K cd11 "weighted" = true) (k11 : PySem.W.keepIn K (.ref f11) = true)
    {od12 an12 : Option Addr} {sl12 : Array (Option Value)} {oc12 kV12 dc12 pm12 cd12 ct12 : Value}
    (a12 : PySem.W.nsIn K mainGlobals "parted" = some (some (.ref f12))) (l12 : K.lookup f12 = some ⟨oc12, od12, .func (PySem.W.fnOf "parted" "parted" (defArgs s_parted) (defBody s_parted) (defScope s_parted) .none kV12 dc12 pm12 an12 cd12 ct12), sl12⟩) (c12 : PySem.W.codeIn K cd12 "parted" = true) (k12 : PySem.W.keepIn K (.ref f12) = true)
    {od13 an13 : Option Addr} {sl13 : Array (Option Value)} {oc13 kV13 dc13 pm13 cd13 ct13 : Value}
    (a13 : PySem.W.nsIn K mainGlobals "total" = some (some (.ref f13))) (l13 : K.lookup f13 = some ⟨oc13, od13, .func (PySem.W.fnOf "total" "total" (defArgs s_total) (defBody s_total) (defScope s_total) .none kV13 dc13 pm13 an13 cd13 ct13), sl13⟩) (c13 : PySem.W.codeIn K cd13 "total" = true) (k13 : PySem.W.keepIn K (.ref f13) = true)
    {od14 an14 : Option Addr} {sl14 : Array (Option Value)} {oc14 kV14 dc14 pm14 cd14 ct14 : Value}
    (a14 : PySem.W.nsIn K mainGlobals "rule_sum" = some (some (.ref f14))) (l14 : K.lookup f14 = some ⟨oc14, od14, .func (PySem.W.fnOf "rule_sum" "rule_sum" (defArgs s_rule_sum) (defBody s_rule_sum) (defScope s_rule_sum) .none kV14 dc14 pm14 an14 cd14 ct14), sl14⟩) (c14 : PySem.W.codeIn K cd14 "rule_sum" = true) (k14 : PySem.W.keepIn K (.ref f14) = true)
    {od15 an15 : Option Addr} {sl15 : Array (Option Value)} {oc15 kV15 dc15 pm15 cd15 ct15 : Value}
    (a15 : PySem.W.nsIn K mainGlobals "keeps" = some (some (.ref f15))) (l15 : K.lookup f15 = some ⟨oc15, od15, .func (PySem.W.fnOf "keeps" "keeps" (defArgs s_keeps) (defBody s_keeps) (defScope s_keeps) .none kV15 dc15 pm15 an15 cd15 ct15), sl15⟩) (c15 : PySem.W.codeIn K cd15 "keeps" = true) (k15 : PySem.W.keepIn K (.ref f15) = true)
    {od16 an16 : Option Addr} {sl16 : Array (Option Value)} {oc16 kV16 dc16 pm16 cd16 ct16 : Value}
    (a16 : PySem.W.nsIn K mainGlobals "check_first" = some (some (.ref f16))) (l16 : K.lookup f16 = some ⟨oc16, od16, .func (PySem.W.fnOf "check_first" "check_first" (defArgs s_check_first) (defBody s_check_first) (defScope s_check_first) .none kV16 dc16 pm16 an16 cd16 ct16), sl16⟩) (c16 : PySem.W.codeIn K cd16 "check_first" = true) (k16 : PySem.W.keepIn K (.ref f16) = true)
    {od17 an17 : Option Addr} {sl17 : Array (Option Value)} {oc17 kV17 dc17 pm17 cd17 ct17 : Value}
    (a17 : PySem.W.nsIn K mainGlobals "next_value" = some (some (.ref f17))) (l17 : K.lookup f17 = some ⟨oc17, od17, .func (PySem.W.fnOf "next_value" "next_value" (defArgs s_next_value) (defBody s_next_value) (defScope s_next_value) .none kV17 dc17 pm17 an17 cd17 ct17), sl17⟩) (c17 : PySem.W.codeIn K cd17 "next_value" = true) (k17 : PySem.W.keepIn K (.ref f17) = true)
    {od18 an18 : Option Addr} {sl18 : Array (Option Value)} {oc18 kV18 dc18 pm18 cd18 ct18 : Value}
    (a18 : PySem.W.nsIn K mainGlobals "row_ahead" = some (some (.ref f18))) (l18 : K.lookup f18 = some ⟨oc18, od18, .func (PySem.W.fnOf "row_ahead" "row_ahead" (defArgs s_row_ahead) (defBody s_row_ahead) (defScope s_row_ahead) .none kV18 dc18 pm18 an18 cd18 ct18), sl18⟩) (c18 : PySem.W.codeIn K cd18 "row_ahead" = true) (k18 : PySem.W.keepIn K (.ref f18) = true)
    {od19 an19 : Option Addr} {sl19 : Array (Option Value)} {oc19 kV19 dc19 pm19 cd19 ct19 : Value}
    (a19 : PySem.W.nsIn K mainGlobals "row_scaled" = some (some (.ref f19))) (l19 : K.lookup f19 = some ⟨oc19, od19, .func (PySem.W.fnOf "row_scaled" "row_scaled" (defArgs s_row_scaled) (defBody s_row_scaled) (defScope s_row_scaled) .none kV19 dc19 pm19 an19 cd19 ct19), sl19⟩) (c19 : PySem.W.codeIn K cd19 "row_scaled" = true) (k19 : PySem.W.keepIn K (.ref f19) = true)
    {od20 an20 : Option Addr} {sl20 : Array (Option Value)} {oc20 kV20 dc20 pm20 cd20 ct20 : Value}
    (a20 : PySem.W.nsIn K mainGlobals "poly_row" = some (some (.ref f20))) (l20 : K.lookup f20 = some ⟨oc20, od20, .func (PySem.W.fnOf "poly_row" "poly_row" (defArgs s_poly_row) (defBody s_poly_row) (defScope s_poly_row) .none kV20 dc20 pm20 an20 cd20 ct20), sl20⟩) (c20 : PySem.W.codeIn K cd20 "poly_row" = true) (k20 : PySem.W.keepIn K (.ref f20) = true)
    {od21 an21 : Option Addr} {sl21 : Array (Option Value)} {oc21 kV21 dc21 pm21 cd21 ct21 : Value}
    (a21 : PySem.W.nsIn K mainGlobals "power_row" = some (some (.ref f21))) (l21 : K.lookup f21 = some ⟨oc21, od21, .func (PySem.W.fnOf "power_row" "power_row" (defArgs s_power_row) (defBody s_power_row) (defScope s_power_row) .none kV21 dc21 pm21 an21 cd21 ct21), sl21⟩) (c21 : PySem.W.codeIn K cd21 "power_row" = true) (k21 : PySem.W.keepIn K (.ref f21) = true)
    {od22 an22 : Option Addr} {sl22 : Array (Option Value)} {oc22 kV22 dc22 pm22 cd22 ct22 : Value}
    (a22 : PySem.W.nsIn K mainGlobals "_law_cell_at" = some (some (.ref f22))) (l22 : K.lookup f22 = some ⟨oc22, od22, .func (PySem.W.fnOf "_law_cell_at" "_law_cell_at" (defArgs s__law_cell_at) (defBody s__law_cell_at) (defScope s__law_cell_at) .none kV22 dc22 pm22 an22 cd22 ct22), sl22⟩) (c22 : PySem.W.codeIn K cd22 "_law_cell_at" = true) (k22 : PySem.W.keepIn K (.ref f22) = true)
    {od23 an23 : Option Addr} {sl23 : Array (Option Value)} {oc23 kV23 dc23 pm23 cd23 ct23 : Value}
    (a23 : PySem.W.nsIn K mainGlobals "_law_lowest" = some (some (.ref f23))) (l23 : K.lookup f23 = some ⟨oc23, od23, .func (PySem.W.fnOf "_law_lowest" "_law_lowest" (defArgs s__law_lowest) (defBody s__law_lowest) (defScope s__law_lowest) .none kV23 dc23 pm23 an23 cd23 ct23), sl23⟩) (c23 : PySem.W.codeIn K cd23 "_law_lowest" = true) (k23 : PySem.W.keepIn K (.ref f23) = true)
    {od24 an24 : Option Addr} {sl24 : Array (Option Value)} {oc24 kV24 dc24 pm24 cd24 ct24 : Value}
    (a24 : PySem.W.nsIn K mainGlobals "_law_number" = some (some (.ref f24))) (l24 : K.lookup f24 = some ⟨oc24, od24, .func (PySem.W.fnOf "_law_number" "_law_number" (defArgs s__law_number) (defBody s__law_number) (defScope s__law_number) .none kV24 dc24 pm24 an24 cd24 ct24), sl24⟩) (c24 : PySem.W.codeIn K cd24 "_law_number" = true) (k24 : PySem.W.keepIn K (.ref f24) = true)
    {od25 an25 : Option Addr} {sl25 : Array (Option Value)} {oc25 kV25 dc25 pm25 cd25 ct25 : Value}
    (a25 : PySem.W.nsIn K mainGlobals "_law_value" = some (some (.ref f25))) (l25 : K.lookup f25 = some ⟨oc25, od25, .func (PySem.W.fnOf "_law_value" "_law_value" (defArgs s__law_value) (defBody s__law_value) (defScope s__law_value) .none kV25 dc25 pm25 an25 cd25 ct25), sl25⟩) (c25 : PySem.W.codeIn K cd25 "_law_value" = true) (k25 : PySem.W.keepIn K (.ref f25) = true)
    {od26 an26 : Option Addr} {sl26 : Array (Option Value)} {oc26 kV26 dc26 pm26 cd26 ct26 : Value}
    (a26 : PySem.W.nsIn K mainGlobals "_law_moved" = some (some (.ref f26))) (l26 : K.lookup f26 = some ⟨oc26, od26, .func (PySem.W.fnOf "_law_moved" "_law_moved" (defArgs s__law_moved) (defBody s__law_moved) (defScope s__law_moved) .none kV26 dc26 pm26 an26 cd26 ct26), sl26⟩) (c26 : PySem.W.codeIn K cd26 "_law_moved" = true) (k26 : PySem.W.keepIn K (.ref f26) = true)
    {od27 an27 : Option Addr} {sl27 : Array (Option Value)} {oc27 kV27 dc27 pm27 cd27 ct27 : Value}
    (a27 : PySem.W.nsIn K mainGlobals "_law_reach" = some (some (.ref f27))) (l27 : K.lookup f27 = some ⟨oc27, od27, .func (PySem.W.fnOf "_law_reach" "_law_reach" (defArgs s__law_reach) (defBody s__law_reach) (defScope s__law_reach) .none kV27 dc27 pm27 an27 cd27 ct27), sl27⟩) (c27 : PySem.W.codeIn K cd27 "_law_reach" = true) (k27 : PySem.W.keepIn K (.ref f27) = true)
    {od28 an28 : Option Addr} {sl28 : Array (Option Value)} {oc28 kV28 dc28 pm28 cd28 ct28 : Value}
    (a28 : PySem.W.nsIn K mainGlobals "_law_rule" = some (some (.ref f28))) (l28 : K.lookup f28 = some ⟨oc28, od28, .func (PySem.W.fnOf "_law_rule" "_law_rule" (defArgs s__law_rule) (defBody s__law_rule) (defScope s__law_rule) .none kV28 dc28 pm28 an28 cd28 ct28), sl28⟩) (c28 : PySem.W.codeIn K cd28 "_law_rule" = true) (k28 : PySem.W.keepIn K (.ref f28) = true)
    {od29 an29 : Option Addr} {sl29 : Array (Option Value)} {oc29 kV29 dc29 pm29 cd29 ct29 : Value}
    (a29 : PySem.W.nsIn K mainGlobals "_law_next" = some (some (.ref f29))) (l29 : K.lookup f29 = some ⟨oc29, od29, .func (PySem.W.fnOf "_law_next" "_law_next" (defArgs s__law_next) (defBody s__law_next) (defScope s__law_next) .none kV29 dc29 pm29 an29 cd29 ct29), sl29⟩) (c29 : PySem.W.codeIn K cd29 "_law_next" = true) (k29 : PySem.W.keepIn K (.ref f29) = true)
    {od30 an30 : Option Addr} {sl30 : Array (Option Value)} {oc30 kV30 dc30 pm30 cd30 ct30 : Value}
    (a30 : PySem.W.nsIn K mainGlobals "_law_values" = some (some (.ref f30))) (l30 : K.lookup f30 = some ⟨oc30, od30, .func (PySem.W.fnOf "_law_values" "_law_values" (defArgs s__law_values) (defBody s__law_values) (defScope s__law_values) .none kV30 dc30 pm30 an30 cd30 ct30), sl30⟩) (c30 : PySem.W.codeIn K cd30 "_law_values" = true) (k30 : PySem.W.keepIn K (.ref f30) = true)
    {od31 an31 : Option Addr} {sl31 : Array (Option Value)} {oc31 kV31 dc31 pm31 cd31 ct31 : Value}
    (a31 : PySem.W.nsIn K mainGlobals "_law_is" = some (some (.ref f31))) (l31 : K.lookup f31 = some ⟨oc31, od31, .func (PySem.W.fnOf "_law_is" "_law_is" (defArgs s__law_is) (defBody s__law_is) (defScope s__law_is) .none kV31 dc31 pm31 an31 cd31 ct31), sl31⟩) (c31 : PySem.W.codeIn K cd31 "_law_is" = true) (k31 : PySem.W.keepIn K (.ref f31) = true)
    {od32 an32 : Option Addr} {sl32 : Array (Option Value)} {oc32 kV32 dc32 pm32 cd32 ct32 : Value}
    (a32 : PySem.W.nsIn K mainGlobals "_law_row" = some (some (.ref f32))) (l32 : K.lookup f32 = some ⟨oc32, od32, .func (PySem.W.fnOf "_law_row" "_law_row" (defArgs s__law_row) (defBody s__law_row) (defScope s__law_row) .none kV32 dc32 pm32 an32 cd32 ct32), sl32⟩) (c32 : PySem.W.codeIn K cd32 "_law_row" = true) (k32 : PySem.W.keepIn K (.ref f32) = true)
    {od33 an33 : Option Addr} {sl33 : Array (Option Value)} {oc33 kV33 dc33 pm33 cd33 ct33 : Value}
    (a33 : PySem.W.nsIn K mainGlobals "_law_ready" = some (some (.ref f33))) (l33 : K.lookup f33 = some ⟨oc33, od33, .func (PySem.W.fnOf "_law_ready" "_law_ready" (defArgs s__law_ready) (defBody s__law_ready) (defScope s__law_ready) .none kV33 dc33 pm33 an33 cd33 ct33), sl33⟩) (c33 : PySem.W.codeIn K cd33 "_law_ready" = true) (k33 : PySem.W.keepIn K (.ref f33) = true)
    {od34 an34 : Option Addr} {sl34 : Array (Option Value)} {oc34 kV34 dc34 pm34 cd34 ct34 : Value}
    (a34 : PySem.W.nsIn K mainGlobals "law" = some (some (.ref f34))) (l34 : K.lookup f34 = some ⟨oc34, od34, .func (PySem.W.fnOf "law" "law" (defArgs s_law) (defBody s_law) (defScope s_law) .none kV34 dc34 pm34 an34 cd34 ct34), sl34⟩) (c34 : PySem.W.codeIn K cd34 "law" = true) (k34 : PySem.W.keepIn K (.ref f34) = true)
    {od35 an35 : Option Addr} {sl35 : Array (Option Value)} {oc35 kV35 dc35 pm35 cd35 ct35 : Value}
    (l35 : K.lookup f35 = some ⟨oc35, od35, .func (PySem.W.fnOf "__init__" "Row.__init__" (defArgs s_Row___init__) (defBody s_Row___init__) (defScope s_Row___init__) .none kV35 dc35 pm35 an35 cd35 ct35), sl35⟩) (c35 : PySem.W.codeIn K cd35 "Row.__init__" = true) (k35 : PySem.W.keepIn K (.ref f35) = true)
    {od36 an36 : Option Addr} {sl36 : Array (Option Value)} {oc36 kV36 dc36 pm36 cd36 ct36 : Value}
    (l36 : K.lookup f36 = some ⟨oc36, od36, .func (PySem.W.fnOf "at" "Row.at" (defArgs s_Row_at) (defBody s_Row_at) (defScope s_Row_at) .none kV36 dc36 pm36 an36 cd36 ct36), sl36⟩) (c36 : PySem.W.codeIn K cd36 "Row.at" = true) (k36 : PySem.W.keepIn K (.ref f36) = true)
    {od37 an37 : Option Addr} {sl37 : Array (Option Value)} {oc37 kV37 dc37 pm37 cd37 ct37 : Value}
    (l37 : K.lookup f37 = some ⟨oc37, od37, .func (PySem.W.fnOf "told" "Row.told" (defArgs s_Row_told) (defBody s_Row_told) (defScope s_Row_told) .none kV37 dc37 pm37 an37 cd37 ct37), sl37⟩) (c37 : PySem.W.codeIn K cd37 "Row.told" = true) (k37 : PySem.W.keepIn K (.ref f37) = true)
    {e_NoNumber : Addr} (xa_NoNumber : PySem.W.nsIn K mainGlobals "NoNumber" = some (some (.ref e_NoNumber))) (xx_NoNumber : PySem.W.excIn K e_NoNumber bmV "ValueError.__new__" = true)
    {e_TooGreat : Addr} (xa_TooGreat : PySem.W.nsIn K mainGlobals "TooGreat" = some (some (.ref e_TooGreat))) (xx_TooGreat : PySem.W.excIn K e_TooGreat bmV "ValueError.__new__" = true)
    {e_NoRule : Addr} (xa_NoRule : PySem.W.nsIn K mainGlobals "NoRule" = some (some (.ref e_NoRule))) (xx_NoRule : PySem.W.excIn K e_NoRule bmV "ValueError.__new__" = true)
    {e_NoPlace : Addr} (xa_NoPlace : PySem.W.nsIn K mainGlobals "NoPlace" = some (some (.ref e_NoPlace))) (xx_NoPlace : PySem.W.excIn K e_NoPlace bmV "ValueError.__new__" = true)
    {e_Row : Addr} (xa_Row : PySem.W.nsIn K mainGlobals "Row" = some (some (.ref e_Row)))
    (xc_Row : Cls K e_Row)
    (xm_Row : Mk K e_Row f35)
    (xe_Row_at : Meth K e_Row "at" f36)
    (xe_Row_told : Meth K e_Row "told" f37)
    (xn_Row_known : NoAttr K e_Row "known")
    (xn_Row_rule : NoAttr K e_Row "rule")
    (z0 : PySem.W.nsIn K mainGlobals "len" = some none)
    (z1 : PySem.W.nsIn K mainGlobals "list" = some none)
    (z2 : PySem.W.nsIn K mainGlobals "enumerate" = some none)
    (z3 : PySem.W.nsIn K mainGlobals "range" = some none)
    (z4 : PySem.W.nsIn K mainGlobals "reversed" = some none)
    (z5 : PySem.W.nsIn K mainGlobals "abs" = some none)
    (z6 : PySem.W.nsIn K mainGlobals "min" = some none)
    (z7 : PySem.W.nsIn K mainGlobals "max" = some none)
    (z8 : PySem.W.nsIn K mainGlobals "sum" = some none)
    (z9 : PySem.W.nsIn K mainGlobals "zip" = some none)
    (z10 : PySem.W.nsIn K mainGlobals "isinstance" = some none)
    (z11 : PySem.W.nsIn K mainGlobals "int" = some none)
    (z12 : PySem.W.nsIn K mainGlobals "tuple" = some none)
    (z13 : PySem.W.nsIn K mainGlobals "bool" = some none)
    {t0 : Tok} (g0 : PySem.W.nsIn K mainGlobals "LONG" = some (some (.int 4000 t0)))
    {t1 : Tok} (g1 : PySem.W.nsIn K mainGlobals "FARTHEST" = some (some (.int 60 t1)))
    {t2 : Tok} (g2 : PySem.W.nsIn K mainGlobals "FARTHEST_AHEAD" = some (some (.int 60 t2)))
    {t3 : Tok} (g3 : PySem.W.nsIn K mainGlobals "MOST_NUMBERS" = some (some (.int 5 t3)))
    {t4 : Tok} (g4 : PySem.W.nsIn K mainGlobals "FARTHEST_PLACE" = some (some (.int 400 t4)))
    : ∃ T : Tx K mg, T.a_law = fa ∧ ∀ (s : Shared) (v : Value), BindsTo s T.fd_law ⟨[v], []⟩ [("_law_script", v)] := by
  have e := hfa.symm.trans (PySem.W.mg_of X G a34)
  cases e
  have F0 := fun_mk (st := s_trimmed) l0 c0 k0
  have b0 := F0.binds (ps := ["numbers"]) fun _ _ _ _ _ _ us hl => by obtain ⟨x0, rfl⟩ := ln_1 hl; rfl
  have F1 := fun_mk (st := s_poly_times) l1 c1 k1
  have b1 := F1.binds (ps := ["one", "other"]) fun _ _ _ _ _ _ us hl => by obtain ⟨x0, x1, rfl⟩ := ln_2 hl; rfl
  have F2 := fun_mk (st := s_shifted) l2 c2 k2
  have b2 := F2.binds (ps := ["poly", "by"]) fun _ _ _ _ _ _ us hl => by obtain ⟨x0, x1, rfl⟩ := ln_2 hl; rfl
  have F3 := fun_mk (st := s_poly_value) l3 c3 k3
  have b3 := F3.binds (ps := ["poly", "n"]) fun _ _ _ _ _ _ us hl => by obtain ⟨x0, x1, rfl⟩ := ln_2 hl; rfl
  have F4 := fun_mk (st := s_divisor) l4 c4 k4
  have b4 := F4.binds (ps := ["one", "other"]) fun _ _ _ _ _ _ us hl => by obtain ⟨x0, x1, rfl⟩ := ln_2 hl; rfl
  have F5 := fun_mk (st := s_ratio) l5 c5 k5
  have b5 := F5.binds (ps := ["top", "bottom"]) fun _ _ _ _ _ _ us hl => by obtain ⟨x0, x1, rfl⟩ := ln_2 hl; rfl
  have F6 := fun_mk (st := s_multiplied) l6 c6 k6
  have b6 := F6.binds (ps := ["one", "other"]) fun _ _ _ _ _ _ us hl => by obtain ⟨x0, x1, rfl⟩ := ln_2 hl; rfl
  have F7 := fun_mk (st := s_clear) l7 c7 k7
  have b7 := F7.binds (ps := ["poly", "m"]) fun _ _ _ _ _ _ us hl => by obtain ⟨x0, x1, rfl⟩ := ln_2 hl; rfl
  have F8 := fun_mk (st := s_reach) l8 c8 k8
  have b8 := F8.binds (ps := ["poly"]) fun _ _ _ _ _ _ us hl => by obtain ⟨x0, rfl⟩ := ln_1 hl; rfl
  have F9 := fun_mk (st := s_order_of) l9 c9 k9
  have b9 := F9.binds (ps := ["rule"]) fun _ _ _ _ _ _ us hl => by obtain ⟨x0, rfl⟩ := ln_1 hl; rfl
  have F10 := fun_mk (st := s_need_of) l10 c10 k10
  have b10 := F10.binds (ps := ["rule"]) fun _ _ _ _ _ _ us hl => by obtain ⟨x0, rfl⟩ := ln_1 hl; rfl
  have F11 := fun_mk (st := s_weighted) l11 c11 k11
  have b11 := F11.binds (ps := ["weight", "fraction"]) fun _ _ _ _ _ _ us hl => by obtain ⟨x0, x1, rfl⟩ := ln_2 hl; rfl
  have F12 := fun_mk (st := s_parted) l12 c12 k12
  have b12 := F12.binds (ps := ["fraction", "number"]) fun _ _ _ _ _ _ us hl => by obtain ⟨x0, x1, rfl⟩ := ln_2 hl; rfl
  have F13 := fun_mk (st := s_total) l13 c13 k13
  have b13 := F13.binds (ps := ["fractions"]) fun _ _ _ _ _ _ us hl => by obtain ⟨x0, rfl⟩ := ln_1 hl; rfl
  have F14 := fun_mk (st := s_rule_sum) l14 c14 k14
  have b14 := F14.binds (ps := ["rule", "values", "n"]) fun _ _ _ _ _ _ us hl => by obtain ⟨x0, x1, x2, rfl⟩ := ln_3 hl; rfl
  have F15 := fun_mk (st := s_keeps) l15 c15 k15
  have b15 := F15.binds (ps := ["rule", "values", "n"]) fun _ _ _ _ _ _ us hl => by obtain ⟨x0, x1, x2, rfl⟩ := ln_3 hl; rfl
  have F16 := fun_mk (st := s_check_first) l16 c16 k16
  have b16 := F16.binds (ps := ["rule", "first"]) fun _ _ _ _ _ _ us hl => by obtain ⟨x0, x1, rfl⟩ := ln_2 hl; rfl
  have F17 := fun_mk (st := s_next_value) l17 c17 k17
  have b17 := F17.binds (ps := ["rule", "values"]) fun _ _ _ _ _ _ us hl => by obtain ⟨x0, x1, rfl⟩ := ln_2 hl; rfl
  have F18 := fun_mk (st := s_row_ahead) l18 c18 k18
  have b18 := F18.binds (ps := ["one", "by"]) fun _ _ _ _ _ _ us hl => by obtain ⟨x0, x1, rfl⟩ := ln_2 hl; rfl
  have F19 := fun_mk (st := s_row_scaled) l19 c19 k19
  have b19 := F19.binds (ps := ["one", "fraction"]) fun _ _ _ _ _ _ us hl => by obtain ⟨x0, x1, rfl⟩ := ln_2 hl; rfl
  have F20 := fun_mk (st := s_poly_row) l20 c20 k20
  have b20 := F20.binds (ps := ["poly"]) fun _ _ _ _ _ _ us hl => by obtain ⟨x0, rfl⟩ := ln_1 hl; rfl
  have F21 := fun_mk (st := s_power_row) l21 c21 k21
  have b21 := F21.binds (ps := ["fraction"]) fun _ _ _ _ _ _ us hl => by obtain ⟨x0, rfl⟩ := ln_1 hl; rfl
  have F22 := fun_mk (st := s__law_cell_at) l22 c22 k22
  have b22 := F22.binds (ps := ["_law_script", "_law_k"]) fun _ _ _ _ _ _ us hl => by obtain ⟨x0, x1, rfl⟩ := ln_2 hl; rfl
  have F23 := fun_mk (st := s__law_lowest) l23 c23 k23
  have b23 := F23.binds (ps := ["_law_top", "_law_bottom"]) fun _ _ _ _ _ _ us hl => by obtain ⟨x0, x1, rfl⟩ := ln_2 hl; rfl
  have F24 := fun_mk (st := s__law_number) l24 c24 k24
  have b24 := F24.binds (ps := ["_law_cell"]) fun _ _ _ _ _ _ us hl => by obtain ⟨x0, rfl⟩ := ln_1 hl; rfl
  have F25 := fun_mk (st := s__law_value) l25 c25 k25
  have b25 := F25.binds (ps := ["_law_poly", "_law_n"]) fun _ _ _ _ _ _ us hl => by obtain ⟨x0, x1, rfl⟩ := ln_2 hl; rfl
  have F26 := fun_mk (st := s__law_moved) l26 c26 k26
  have b26 := F26.binds (ps := ["_law_poly", "_law_by"]) fun _ _ _ _ _ _ us hl => by obtain ⟨x0, x1, rfl⟩ := ln_2 hl; rfl
  have F27 := fun_mk (st := s__law_reach) l27 c27 k27
  have b27 := F27.binds (ps := ["_law_poly"]) fun _ _ _ _ _ _ us hl => by obtain ⟨x0, rfl⟩ := ln_1 hl; rfl
  have F28 := fun_mk (st := s__law_rule) l28 c28 k28
  have b28 := F28.binds (ps := ["_law_script"]) fun _ _ _ _ _ _ us hl => by obtain ⟨x0, rfl⟩ := ln_1 hl; rfl
  have F29 := fun_mk (st := s__law_next) l29 c29 k29
  have b29 := F29.binds (ps := ["_law_rule_here", "_law_values_here", "_law_free"]) fun _ _ _ _ _ _ us hl => by obtain ⟨x0, x1, x2, rfl⟩ := ln_3 hl; rfl
  have F30 := fun_mk (st := s__law_values) l30 c30 k30
  have b30 := F30.binds (ps := ["_law_script", "_law_rule_here", "_law_many"]) fun _ _ _ _ _ _ us hl => by obtain ⟨x0, x1, x2, rfl⟩ := ln_3 hl; rfl
  have F31 := fun_mk (st := s__law_is) l31 c31 k31
  have b31 := F31.binds (ps := ["_law_found", "_law_due"]) fun _ _ _ _ _ _ us hl => by obtain ⟨x0, x1, rfl⟩ := ln_2 hl; rfl
  have F32 := fun_mk (st := s__law_row) l32 c32 k32
  have b32 := F32.binds (ps := ["_law_row_here", "_law_rule_here", "_law_first", "_law_due"]) fun _ _ _ _ _ _ us hl => by obtain ⟨x0, x1, x2, x3, rfl⟩ := ln_4 hl; rfl
  have F33 := fun_mk (st := s__law_ready) l33 c33 k33
  have b33 := F33.binds (ps := ["_law_script", "_law_fraction"]) fun _ _ _ _ _ _ us hl => by obtain ⟨x0, x1, rfl⟩ := ln_2 hl; rfl
  have F34 := fun_mk (st := s_law) l34 c34 k34
  have b34 := F34.binds (ps := ["_law_script"]) fun _ _ _ _ _ _ us hl => by obtain ⟨x0, rfl⟩ := ln_1 hl; rfl
  have F35 := fun_mk (st := s_Row___init__) l35 c35 k35
  have b35 := F35.binds (ps := ["self", "rule", "first"]) fun _ _ _ _ _ _ us hl => by obtain ⟨x0, x1, x2, rfl⟩ := ln_3 hl; rfl
  have F36 := fun_mk (st := s_Row_at) l36 c36 k36
  have b36 := F36.binds (ps := ["self", "n"]) fun _ _ _ _ _ _ us hl => by obtain ⟨x0, x1, rfl⟩ := ln_2 hl; rfl
  have F37 := fun_mk (st := s_Row_told) l37 c37 k37
  have b37 := F37.binds (ps := ["self"]) fun _ _ _ _ _ _ us hl => by obtain ⟨x0, rfl⟩ := ln_1 hl; rfl
  exact ⟨⟨_, _, F0, PySem.W.mg_of X G a0, b0, _, _, F1, PySem.W.mg_of X G a1, b1, _, _, F2, PySem.W.mg_of X G a2, b2, _, _, F3, PySem.W.mg_of X G a3, b3, _, _, F4, PySem.W.mg_of X G a4, b4, _, _, F5, PySem.W.mg_of X G a5, b5, _, _, F6, PySem.W.mg_of X G a6, b6, _, _, F7, PySem.W.mg_of X G a7, b7, _, _, F8, PySem.W.mg_of X G a8, b8, _, _, F9, PySem.W.mg_of X G a9, b9, _, _, F10, PySem.W.mg_of X G a10, b10, _, _, F11, PySem.W.mg_of X G a11, b11, _, _, F12, PySem.W.mg_of X G a12, b12, _, _, F13, PySem.W.mg_of X G a13, b13, _, _, F14, PySem.W.mg_of X G a14, b14, _, _, F15, PySem.W.mg_of X G a15, b15, _, _, F16, PySem.W.mg_of X G a16, b16, _, _, F17, PySem.W.mg_of X G a17, b17, _, _, F18, PySem.W.mg_of X G a18, b18, _, _, F19, PySem.W.mg_of X G a19, b19, _, _, F20, PySem.W.mg_of X G a20, b20, _, _, F21, PySem.W.mg_of X G a21, b21, _, _, F22, PySem.W.mg_of X G a22, b22, _, _, F23, PySem.W.mg_of X G a23, b23, _, _, F24, PySem.W.mg_of X G a24, b24, _, _, F25, PySem.W.mg_of X G a25, b25, _, _, F26, PySem.W.mg_of X G a26, b26, _, _, F27, PySem.W.mg_of X G a27, b27, _, _, F28, PySem.W.mg_of X G a28, b28, _, _, F29, PySem.W.mg_of X G a29, b29, _, _, F30, PySem.W.mg_of X G a30, b30, _, _, F31, PySem.W.mg_of X G a31, b31, _, _, F32, PySem.W.mg_of X G a32, b32, _, _, F33, PySem.W.mg_of X G a33, b33, _, _, F34, PySem.W.mg_of X G a34, b34, _, _, F35, b35, _, _, F36, b36, _, _, F37, b37, _, PySem.W.mg_of X G xa_NoNumber, xx_NoNumber, _, PySem.W.mg_of X G xa_TooGreat, xx_TooGreat, _, PySem.W.mg_of X G xa_NoRule, xx_NoRule, _, PySem.W.mg_of X G xa_NoPlace, xx_NoPlace, _, PySem.W.mg_of X G xa_Row, xc_Row, xm_Row, xe_Row_at, xe_Row_told, xn_Row_known, xn_Row_rule, PySem.W.mg_none_of X G z0, PySem.W.mg_none_of X G z1, PySem.W.mg_none_of X G z2, PySem.W.mg_none_of X G z3, PySem.W.mg_none_of X G z4, PySem.W.mg_none_of X G z5, PySem.W.mg_none_of X G z6, PySem.W.mg_none_of X G z7, PySem.W.mg_none_of X G z8, PySem.W.mg_none_of X G z9, PySem.W.mg_none_of X G z10, PySem.W.mg_none_of X G z11, PySem.W.mg_none_of X G z12, PySem.W.mg_none_of X G z13, ⟨_, PySem.W.mg_of X G g0⟩, ⟨_, PySem.W.mg_of X G g1⟩, ⟨_, PySem.W.mg_of X G g2⟩, ⟨_, PySem.W.mg_of X G g3⟩, ⟨_, PySem.W.mg_of X G g4⟩⟩, rfl, fun s v => .of_eq rfl⟩
theorem walk {l : PySem.W.OpenLaw} {q : Program} {loose : List Str} {XP : (Str → Option Value) → Heap → Prop} {YP : World → Heap → Prop} {d : DefRec} {K : Params → PySem.W.Frag} (hn : l.most = some 63) (hdf : d.params.defaults = [])
    (hY : ∀ (w : World) (h : Heap), YP w h → (K w.params).In h)
    (F : ∀ (w : World) (mg : Str → Option Value) (fa : Addr) (h : Heap), (K w.params).In h → h.Ns mainGlobals mg → mg d.name = some (.ref fa) →
      ∃ T : Tx (K w.params) mg, T.a_law = fa ∧ ∀ (s : Shared) (v : Value), BindsTo s T.fd_law ⟨[v], []⟩ [("_law_script", v)]) :
    PySem.W.WalkO q loose XP YP l.row.toRowW d [] (fun f vs => PySem.call f vs) :=
  L2.walk_of (n := 63) (k := 20) (x := "_law_script") (CX := fun _ => CX0) (sp := fun w => spLaw (K w.params)) hn (by decide) hdf ⟨rfl, by decide, by decide⟩ hY
    (fun w mg fa h KX G hmg => by
      obtain ⟨T, e, hb⟩ := F w mg fa h KX G hmg
      subst e
      exact ⟨T.fd_law, hb, fun base _ _ => FnOk.mono (ok_law T) (by decide)⟩)
    (fun _ H a ns hl _ hS => ⟨a, ns, rfl, hS, hl, fun _ => rfl⟩) fun _ _ _ _ _ z => z
theorem ka0 (P : Params) : PySem.W.nsIn (KK P) mainGlobals "trimmed" = some (some (.ref 113)) := by kernel_rfl
theorem kl0 (P : Params) : (KK P).lookup 113 = some ⟨.type "function", none, .func (PySem.W.fnOf "trimmed" "trimmed" (defArgs s_trimmed) (defBody s_trimmed) (defScope s_trimmed) .none .none .none (.str "sumcraft.polys" 312) none (.ref 112) .none), #[]⟩ := by kernel_rfl
theorem kc0 (P : Params) : PySem.W.codeIn (KK P) (.ref 112) "trimmed" = true := by kernel_rfl
theorem kk0 (P : Params) : PySem.W.keepIn (KK P) (.ref 113) = true := by kernel_rfl
theorem ka1 (P : Params) : PySem.W.nsIn (KK P) mainGlobals "poly_times" = some (some (.ref 120)) := by kernel_rfl
theorem kl1 (P : Params) : (KK P).lookup 120 = some ⟨.type "function", none, .func (PySem.W.fnOf "poly_times" "poly_times" (defArgs s_poly_times) (defBody s_poly_times) (defScope s_poly_times) .none .none .none (.str "sumcraft.polys" 312) none (.ref 119) .none), #[]⟩ := by kernel_rfl
theorem kc1 (P : Params) : PySem.W.codeIn (KK P) (.ref 119) "poly_times" = true := by kernel_rfl
theorem kk1 (P : Params) : PySem.W.keepIn (KK P) (.ref 120) = true := by kernel_rfl
theorem ka2 (P : Params) : PySem.W.nsIn (KK P) mainGlobals "shifted" = some (some (.ref 127)) := by kernel_rfl
theorem kl2 (P : Params) : (KK P).lookup 127 = some ⟨.type "function", none, .func (PySem.W.fnOf "shifted" "shifted" (defArgs s_shifted) (defBody s_shifted) (defScope s_shifted) .none .none .none (.str "sumcraft.polys" 312) none (.ref 126) .none), #[]⟩ := by kernel_rfl
theorem kc2 (P : Params) : PySem.W.codeIn (KK P) (.ref 126) "shifted" = true := by kernel_rfl
theorem kk2 (P : Params) : PySem.W.keepIn (KK P) (.ref 127) = true := by kernel_rfl
theorem ka3 (P : Params) : PySem.W.nsIn (KK P) mainGlobals "poly_value" = some (some (.ref 134)) := by kernel_rfl
theorem kl3 (P : Params) : (KK P).lookup 134 = some ⟨.type "function", none, .func (PySem.W.fnOf "poly_value" "poly_value" (defArgs s_poly_value) (defBody s_poly_value) (defScope s_poly_value) .none .none .none (.str "sumcraft.polys" 312) none (.ref 133) .none), #[]⟩ := by kernel_rfl
theorem kc3 (P : Params) : PySem.W.codeIn (KK P) (.ref 133) "poly_value" = true := by kernel_rfl
theorem kk3 (P : Params) : PySem.W.keepIn (KK P) (.ref 134) = true := by kernel_rfl
theorem ka4 (P : Params) : PySem.W.nsIn (KK P) mainGlobals "divisor" = some (some (.ref 148)) := by kernel_rfl
theorem kl4 (P : Params) : (KK P).lookup 148 = some ⟨.type "function", none, .func (PySem.W.fnOf "divisor" "divisor" (defArgs s_divisor) (defBody s_divisor) (defScope s_divisor) .none .none .none (.str "sumcraft.ratios" 356) none (.ref 147) .none), #[]⟩ := by kernel_rfl
theorem kc4 (P : Params) : PySem.W.codeIn (KK P) (.ref 147) "divisor" = true := by kernel_rfl
theorem kk4 (P : Params) : PySem.W.keepIn (KK P) (.ref 148) = true := by kernel_rfl
theorem ka5 (P : Params) : PySem.W.nsIn (KK P) mainGlobals "ratio" = some (some (.ref 155)) := by kernel_rfl
theorem kl5 (P : Params) : (KK P).lookup 155 = some ⟨.type "function", none, .func (PySem.W.fnOf "ratio" "ratio" (defArgs s_ratio) (defBody s_ratio) (defScope s_ratio) .none .none .none (.str "sumcraft.ratios" 356) none (.ref 154) .none), #[]⟩ := by kernel_rfl
theorem kc5 (P : Params) : PySem.W.codeIn (KK P) (.ref 154) "ratio" = true := by kernel_rfl
theorem kk5 (P : Params) : PySem.W.keepIn (KK P) (.ref 155) = true := by kernel_rfl
theorem ka6 (P : Params) : PySem.W.nsIn (KK P) mainGlobals "multiplied" = some (some (.ref 162)) := by kernel_rfl
theorem kl6 (P : Params) : (KK P).lookup 162 = some ⟨.type "function", none, .func (PySem.W.fnOf "multiplied" "multiplied" (defArgs s_multiplied) (defBody s_multiplied) (defScope s_multiplied) .none .none .none (.str "sumcraft.ratios" 356) none (.ref 161) .none), #[]⟩ := by kernel_rfl
theorem kc6 (P : Params) : PySem.W.codeIn (KK P) (.ref 161) "multiplied" = true := by kernel_rfl
theorem kk6 (P : Params) : PySem.W.keepIn (KK P) (.ref 162) = true := by kernel_rfl
theorem ka7 (P : Params) : PySem.W.nsIn (KK P) mainGlobals "clear" = some (some (.ref 169)) := by kernel_rfl
theorem kl7 (P : Params) : (KK P).lookup 169 = some ⟨.type "function", none, .func (PySem.W.fnOf "clear" "clear" (defArgs s_clear) (defBody s_clear) (defScope s_clear) .none .none .none (.str "sumcraft.reaches" 408) none (.ref 168) .none), #[]⟩ := by kernel_rfl
theorem kc7 (P : Params) : PySem.W.codeIn (KK P) (.ref 168) "clear" = true := by kernel_rfl
theorem kk7 (P : Params) : PySem.W.keepIn (KK P) (.ref 169) = true := by kernel_rfl
theorem ka8 (P : Params) : PySem.W.nsIn (KK P) mainGlobals "reach" = some (some (.ref 176)) := by kernel_rfl
theorem kl8 (P : Params) : (KK P).lookup 176 = some ⟨.type "function", none, .func (PySem.W.fnOf "reach" "reach" (defArgs s_reach) (defBody s_reach) (defScope s_reach) .none .none .none (.str "sumcraft.reaches" 408) none (.ref 175) .none), #[]⟩ := by kernel_rfl
theorem kc8 (P : Params) : PySem.W.codeIn (KK P) (.ref 175) "reach" = true := by kernel_rfl
theorem kk8 (P : Params) : PySem.W.keepIn (KK P) (.ref 176) = true := by kernel_rfl
theorem ka9 (P : Params) : PySem.W.nsIn (KK P) mainGlobals "order_of" = some (some (.ref 183)) := by kernel_rfl
theorem kl9 (P : Params) : (KK P).lookup 183 = some ⟨.type "function", none, .func (PySem.W.fnOf "order_of" "order_of" (defArgs s_order_of) (defBody s_order_of) (defScope s_order_of) .none .none .none (.str "sumcraft.rules" 429) none (.ref 182) .none), #[]⟩ := by kernel_rfl
theorem kc9 (P : Params) : PySem.W.codeIn (KK P) (.ref 182) "order_of" = true := by kernel_rfl
theorem kk9 (P : Params) : PySem.W.keepIn (KK P) (.ref 183) = true := by kernel_rfl
theorem ka10 (P : Params) : PySem.W.nsIn (KK P) mainGlobals "need_of" = some (some (.ref 190)) := by kernel_rfl
theorem kl10 (P : Params) : (KK P).lookup 190 = some ⟨.type "function", none, .func (PySem.W.fnOf "need_of" "need_of" (defArgs s_need_of) (defBody s_need_of) (defScope s_need_of) .none .none .none (.str "sumcraft.rules" 429) none (.ref 189) .none), #[]⟩ := by kernel_rfl
theorem kc10 (P : Params) : PySem.W.codeIn (KK P) (.ref 189) "need_of" = true := by kernel_rfl
theorem kk10 (P : Params) : PySem.W.keepIn (KK P) (.ref 190) = true := by kernel_rfl
theorem ka11 (P : Params) : PySem.W.nsIn (KK P) mainGlobals "weighted" = some (some (.ref 197)) := by kernel_rfl
theorem kl11 (P : Params) : (KK P).lookup 197 = some ⟨.type "function", none, .func (PySem.W.fnOf "weighted" "weighted" (defArgs s_weighted) (defBody s_weighted) (defScope s_weighted) .none .none .none (.str "sumcraft.rules" 429) none (.ref 196) .none), #[]⟩ := by kernel_rfl
theorem kc11 (P : Params) : PySem.W.codeIn (KK P) (.ref 196) "weighted" = true := by kernel_rfl
theorem kk11 (P : Params) : PySem.W.keepIn (KK P) (.ref 197) = true := by kernel_rfl
theorem ka12 (P : Params) : PySem.W.nsIn (KK P) mainGlobals "parted" = some (some (.ref 204)) := by kernel_rfl
theorem kl12 (P : Params) : (KK P).lookup 204 = some ⟨.type "function", none, .func (PySem.W.fnOf "parted" "parted" (defArgs s_parted) (defBody s_parted) (defScope s_parted) .none .none .none (.str "sumcraft.rules" 429) none (.ref 203) .none), #[]⟩ := by kernel_rfl
theorem kc12 (P : Params) : PySem.W.codeIn (KK P) (.ref 203) "parted" = true := by kernel_rfl
theorem kk12 (P : Params) : PySem.W.keepIn (KK P) (.ref 204) = true := by kernel_rfl
theorem ka13 (P : Params) : PySem.W.nsIn (KK P) mainGlobals "total" = some (some (.ref 209)) := by kernel_rfl
theorem kl13 (P : Params) : (KK P).lookup 209 = some ⟨.type "function", none, .func (PySem.W.fnOf "total" "total" (defArgs s_total) (defBody s_total) (defScope s_total) .none .none .none (.str "sumcraft.rules" 429) none (.ref 208) .none), #[]⟩ := by kernel_rfl
theorem kc13 (P : Params) : PySem.W.codeIn (KK P) (.ref 208) "total" = true := by kernel_rfl
theorem kk13 (P : Params) : PySem.W.keepIn (KK P) (.ref 209) = true := by kernel_rfl
theorem ka14 (P : Params) : PySem.W.nsIn (KK P) mainGlobals "rule_sum" = some (some (.ref 214)) := by kernel_rfl
theorem kl14 (P : Params) : (KK P).lookup 214 = some ⟨.type "function", none, .func (PySem.W.fnOf "rule_sum" "rule_sum" (defArgs s_rule_sum) (defBody s_rule_sum) (defScope s_rule_sum) .none .none .none (.str "sumcraft.rules" 429) none (.ref 213) .none), #[]⟩ := by kernel_rfl
theorem kc14 (P : Params) : PySem.W.codeIn (KK P) (.ref 213) "rule_sum" = true := by kernel_rfl
theorem kk14 (P : Params) : PySem.W.keepIn (KK P) (.ref 214) = true := by kernel_rfl
theorem ka15 (P : Params) : PySem.W.nsIn (KK P) mainGlobals "keeps" = some (some (.ref 221)) := by kernel_rfl
theorem kl15 (P : Params) : (KK P).lookup 221 = some ⟨.type "function", none, .func (PySem.W.fnOf "keeps" "keeps" (defArgs s_keeps) (defBody s_keeps) (defScope s_keeps) .none .none .none (.str "sumcraft.rules" 429) none (.ref 220) .none), #[]⟩ := by kernel_rfl
theorem kc15 (P : Params) : PySem.W.codeIn (KK P) (.ref 220) "keeps" = true := by kernel_rfl
theorem kk15 (P : Params) : PySem.W.keepIn (KK P) (.ref 221) = true := by kernel_rfl
theorem ka16 (P : Params) : PySem.W.nsIn (KK P) mainGlobals "check_first" = some (some (.ref 228)) := by kernel_rfl
theorem kl16 (P : Params) : (KK P).lookup 228 = some ⟨.type "function", none, .func (PySem.W.fnOf "check_first" "check_first" (defArgs s_check_first) (defBody s_check_first) (defScope s_check_first) .none .none .none (.str "sumcraft.rules" 429) none (.ref 227) .none), #[]⟩ := by kernel_rfl
theorem kc16 (P : Params) : PySem.W.codeIn (KK P) (.ref 227) "check_first" = true := by kernel_rfl
theorem kk16 (P : Params) : PySem.W.keepIn (KK P) (.ref 228) = true := by kernel_rfl
theorem ka17 (P : Params) : PySem.W.nsIn (KK P) mainGlobals "next_value" = some (some (.ref 235)) := by kernel_rfl
theorem kl17 (P : Params) : (KK P).lookup 235 = some ⟨.type "function", none, .func (PySem.W.fnOf "next_value" "next_value" (defArgs s_next_value) (defBody s_next_value) (defScope s_next_value) .none .none .none (.str "sumcraft.rules" 429) none (.ref 234) .none), #[]⟩ := by kernel_rfl
theorem kc17 (P : Params) : PySem.W.codeIn (KK P) (.ref 234) "next_value" = true := by kernel_rfl
theorem kk17 (P : Params) : PySem.W.keepIn (KK P) (.ref 235) = true := by kernel_rfl
theorem ka18 (P : Params) : PySem.W.nsIn (KK P) mainGlobals "row_ahead" = some (some (.ref 271)) := by kernel_rfl
theorem kl18 (P : Params) : (KK P).lookup 271 = some ⟨.type "function", none, .func (PySem.W.fnOf "row_ahead" "row_ahead" (defArgs s_row_ahead) (defBody s_row_ahead) (defScope s_row_ahead) .none .none .none (.str "sumcraft.made" 552) none (.ref 270) .none), #[]⟩ := by kernel_rfl
theorem kc18 (P : Params) : PySem.W.codeIn (KK P) (.ref 270) "row_ahead" = true := by kernel_rfl
theorem kk18 (P : Params) : PySem.W.keepIn (KK P) (.ref 271) = true := by kernel_rfl
theorem ka19 (P : Params) : PySem.W.nsIn (KK P) mainGlobals "row_scaled" = some (some (.ref 276)) := by kernel_rfl
theorem kl19 (P : Params) : (KK P).lookup 276 = some ⟨.type "function", none, .func (PySem.W.fnOf "row_scaled" "row_scaled" (defArgs s_row_scaled) (defBody s_row_scaled) (defScope s_row_scaled) .none .none .none (.str "sumcraft.made" 552) none (.ref 275) .none), #[]⟩ := by kernel_rfl
theorem kc19 (P : Params) : PySem.W.codeIn (KK P) (.ref 275) "row_scaled" = true := by kernel_rfl
theorem kk19 (P : Params) : PySem.W.keepIn (KK P) (.ref 276) = true := by kernel_rfl
theorem ka20 (P : Params) : PySem.W.nsIn (KK P) mainGlobals "poly_row" = some (some (.ref 281)) := by kernel_rfl
theorem kl20 (P : Params) : (KK P).lookup 281 = some ⟨.type "function", none, .func (PySem.W.fnOf "poly_row" "poly_row" (defArgs s_poly_row) (defBody s_poly_row) (defScope s_poly_row) .none .none .none (.str "sumcraft.made" 552) none (.ref 280) .none), #[]⟩ := by kernel_rfl
theorem kc20 (P : Params) : PySem.W.codeIn (KK P) (.ref 280) "poly_row" = true := by kernel_rfl
theorem kk20 (P : Params) : PySem.W.keepIn (KK P) (.ref 281) = true := by kernel_rfl
theorem ka21 (P : Params) : PySem.W.nsIn (KK P) mainGlobals "power_row" = some (some (.ref 288)) := by kernel_rfl
theorem kl21 (P : Params) : (KK P).lookup 288 = some ⟨.type "function", none, .func (PySem.W.fnOf "power_row" "power_row" (defArgs s_power_row) (defBody s_power_row) (defScope s_power_row) .none .none .none (.str "sumcraft.made" 552) none (.ref 287) .none), #[]⟩ := by kernel_rfl
theorem kc21 (P : Params) : PySem.W.codeIn (KK P) (.ref 287) "power_row" = true := by kernel_rfl
theorem kk21 (P : Params) : PySem.W.keepIn (KK P) (.ref 288) = true := by kernel_rfl
theorem ka22 (P : Params) : PySem.W.nsIn (KK P) mainGlobals "_law_cell_at" = some (some (.ref 295)) := by kernel_rfl
theorem kl22 (P : Params) : (KK P).lookup 295 = some ⟨.type "function", none, .func (PySem.W.fnOf "_law_cell_at" "_law_cell_at" (defArgs s__law_cell_at) (defBody s__law_cell_at) (defScope s__law_cell_at) .none .none .none (.str "law_sumcraft_k37_rows_moved_scaled_ready" 583) none (.ref 294) .none), #[]⟩ := by kernel_rfl
theorem kc22 (P : Params) : PySem.W.codeIn (KK P) (.ref 294) "_law_cell_at" = true := by kernel_rfl
theorem kk22 (P : Params) : PySem.W.keepIn (KK P) (.ref 295) = true := by kernel_rfl
theorem ka23 (P : Params) : PySem.W.nsIn (KK P) mainGlobals "_law_lowest" = some (some (.ref 302)) := by kernel_rfl
theorem kl23 (P : Params) : (KK P).lookup 302 = some ⟨.type "function", none, .func (PySem.W.fnOf "_law_lowest" "_law_lowest" (defArgs s__law_lowest) (defBody s__law_lowest) (defScope s__law_lowest) .none .none .none (.str "law_sumcraft_k37_rows_moved_scaled_ready" 583) none (.ref 301) .none), #[]⟩ := by kernel_rfl
theorem kc23 (P : Params) : PySem.W.codeIn (KK P) (.ref 301) "_law_lowest" = true := by kernel_rfl
theorem kk23 (P : Params) : PySem.W.keepIn (KK P) (.ref 302) = true := by kernel_rfl
theorem ka24 (P : Params) : PySem.W.nsIn (KK P) mainGlobals "_law_number" = some (some (.ref 309)) := by kernel_rfl
theorem kl24 (P : Params) : (KK P).lookup 309 = some ⟨.type "function", none, .func (PySem.W.fnOf "_law_number" "_law_number" (defArgs s__law_number) (defBody s__law_number) (defScope s__law_number) .none .none .none (.str "law_sumcraft_k37_rows_moved_scaled_ready" 583) none (.ref 308) .none), #[]⟩ := by kernel_rfl
theorem kc24 (P : Params) : PySem.W.codeIn (KK P) (.ref 308) "_law_number" = true := by kernel_rfl
theorem kk24 (P : Params) : PySem.W.keepIn (KK P) (.ref 309) = true := by kernel_rfl
theorem ka25 (P : Params) : PySem.W.nsIn (KK P) mainGlobals "_law_value" = some (some (.ref 316)) := by kernel_rfl
theorem kl25 (P : Params) : (KK P).lookup 316 = some ⟨.type "function", none, .func (PySem.W.fnOf "_law_value" "_law_value" (defArgs s__law_value) (defBody s__law_value) (defScope s__law_value) .none .none .none (.str "law_sumcraft_k37_rows_moved_scaled_ready" 583) none (.ref 315) .none), #[]⟩ := by kernel_rfl
theorem kc25 (P : Params) : PySem.W.codeIn (KK P) (.ref 315) "_law_value" = true := by kernel_rfl
theorem kk25 (P : Params) : PySem.W.keepIn (KK P) (.ref 316) = true := by kernel_rfl
theorem ka26 (P : Params) : PySem.W.nsIn (KK P) mainGlobals "_law_moved" = some (some (.ref 323)) := by kernel_rfl
theorem kl26 (P : Params) : (KK P).lookup 323 = some ⟨.type "function", none, .func (PySem.W.fnOf "_law_moved" "_law_moved" (defArgs s__law_moved) (defBody s__law_moved) (defScope s__law_moved) .none .none .none (.str "law_sumcraft_k37_rows_moved_scaled_ready" 583) none (.ref 322) .none), #[]⟩ := by kernel_rfl
theorem kc26 (P : Params) : PySem.W.codeIn (KK P) (.ref 322) "_law_moved" = true := by kernel_rfl
theorem kk26 (P : Params) : PySem.W.keepIn (KK P) (.ref 323) = true := by kernel_rfl
theorem ka27 (P : Params) : PySem.W.nsIn (KK P) mainGlobals "_law_reach" = some (some (.ref 330)) := by kernel_rfl
theorem kl27 (P : Params) : (KK P).lookup 330 = some ⟨.type "function", none, .func (PySem.W.fnOf "_law_reach" "_law_reach" (defArgs s__law_reach) (defBody s__law_reach) (defScope s__law_reach) .none .none .none (.str "law_sumcraft_k37_rows_moved_scaled_ready" 583) none (.ref 329) .none), #[]⟩ := by kernel_rfl
theorem kc27 (P : Params) : PySem.W.codeIn (KK P) (.ref 329) "_law_reach" = true := by kernel_rfl
theorem kk27 (P : Params) : PySem.W.keepIn (KK P) (.ref 330) = true := by kernel_rfl
theorem ka28 (P : Params) : PySem.W.nsIn (KK P) mainGlobals "_law_rule" = some (some (.ref 337)) := by kernel_rfl
theorem kl28 (P : Params) : (KK P).lookup 337 = some ⟨.type "function", none, .func (PySem.W.fnOf "_law_rule" "_law_rule" (defArgs s__law_rule) (defBody s__law_rule) (defScope s__law_rule) .none .none .none (.str "law_sumcraft_k37_rows_moved_scaled_ready" 583) none (.ref 336) .none), #[]⟩ := by kernel_rfl
theorem kc28 (P : Params) : PySem.W.codeIn (KK P) (.ref 336) "_law_rule" = true := by kernel_rfl
theorem kk28 (P : Params) : PySem.W.keepIn (KK P) (.ref 337) = true := by kernel_rfl
theorem ka29 (P : Params) : PySem.W.nsIn (KK P) mainGlobals "_law_next" = some (some (.ref 344)) := by kernel_rfl
theorem kl29 (P : Params) : (KK P).lookup 344 = some ⟨.type "function", none, .func (PySem.W.fnOf "_law_next" "_law_next" (defArgs s__law_next) (defBody s__law_next) (defScope s__law_next) .none .none .none (.str "law_sumcraft_k37_rows_moved_scaled_ready" 583) none (.ref 343) .none), #[]⟩ := by kernel_rfl
theorem kc29 (P : Params) : PySem.W.codeIn (KK P) (.ref 343) "_law_next" = true := by kernel_rfl
theorem kk29 (P : Params) : PySem.W.keepIn (KK P) (.ref 344) = true := by kernel_rfl
theorem ka30 (P : Params) : PySem.W.nsIn (KK P) mainGlobals "_law_values" = some (some (.ref 351)) := by kernel_rfl
theorem kl30 (P : Params) : (KK P).lookup 351 = some ⟨.type "function", none, .func (PySem.W.fnOf "_law_values" "_law_values" (defArgs s__law_values) (defBody s__law_values) (defScope s__law_values) .none .none .none (.str "law_sumcraft_k37_rows_moved_scaled_ready" 583) none (.ref 350) .none), #[]⟩ := by kernel_rfl
theorem kc30 (P : Params) : PySem.W.codeIn (KK P) (.ref 350) "_law_values" = true := by kernel_rfl
theorem kk30 (P : Params) : PySem.W.keepIn (KK P) (.ref 351) = true := by kernel_rfl
theorem ka31 (P : Params) : PySem.W.nsIn (KK P) mainGlobals "_law_is" = some (some (.ref 358)) := by kernel_rfl
theorem kl31 (P : Params) : (KK P).lookup 358 = some ⟨.type "function", none, .func (PySem.W.fnOf "_law_is" "_law_is" (defArgs s__law_is) (defBody s__law_is) (defScope s__law_is) .none .none .none (.str "law_sumcraft_k37_rows_moved_scaled_ready" 583) none (.ref 357) .none), #[]⟩ := by kernel_rfl
theorem kc31 (P : Params) : PySem.W.codeIn (KK P) (.ref 357) "_law_is" = true := by kernel_rfl
theorem kk31 (P : Params) : PySem.W.keepIn (KK P) (.ref 358) = true := by kernel_rfl
theorem ka32 (P : Params) : PySem.W.nsIn (KK P) mainGlobals "_law_row" = some (some (.ref 365)) := by kernel_rfl
theorem kl32 (P : Params) : (KK P).lookup 365 = some ⟨.type "function", none, .func (PySem.W.fnOf "_law_row" "_law_row" (defArgs s__law_row) (defBody s__law_row) (defScope s__law_row) .none .none .none (.str "law_sumcraft_k37_rows_moved_scaled_ready" 583) none (.ref 364) .none), #[]⟩ := by kernel_rfl
theorem kc32 (P : Params) : PySem.W.codeIn (KK P) (.ref 364) "_law_row" = true := by kernel_rfl
theorem kk32 (P : Params) : PySem.W.keepIn (KK P) (.ref 365) = true := by kernel_rfl
theorem ka33 (P : Params) : PySem.W.nsIn (KK P) mainGlobals "_law_ready" = some (some (.ref 370)) := by kernel_rfl
theorem kl33 (P : Params) : (KK P).lookup 370 = some ⟨.type "function", none, .func (PySem.W.fnOf "_law_ready" "_law_ready" (defArgs s__law_ready) (defBody s__law_ready) (defScope s__law_ready) .none .none .none (.str "law_sumcraft_k37_rows_moved_scaled_ready" 583) none (.ref 369) .none), #[]⟩ := by kernel_rfl
theorem kc33 (P : Params) : PySem.W.codeIn (KK P) (.ref 369) "_law_ready" = true := by kernel_rfl
theorem kk33 (P : Params) : PySem.W.keepIn (KK P) (.ref 370) = true := by kernel_rfl
theorem ka34 (P : Params) : PySem.W.nsIn (KK P) mainGlobals "law" = some (some (.ref 375)) := by kernel_rfl
theorem kl34 (P : Params) : (KK P).lookup 375 = some ⟨.type "function", none, .func (PySem.W.fnOf "law" "law" (defArgs s_law) (defBody s_law) (defScope s_law) .none .none .none (.str "law_sumcraft_k37_rows_moved_scaled_ready" 583) none (.ref 374) .none), #[]⟩ := by kernel_rfl
theorem kc34 (P : Params) : PySem.W.codeIn (KK P) (.ref 374) "law" = true := by kernel_rfl
theorem kk34 (P : Params) : PySem.W.keepIn (KK P) (.ref 375) = true := by kernel_rfl
theorem kl35 (P : Params) : (KK P).lookup 247 = some ⟨.type "function", none, .func (PySem.W.fnOf "__init__" "Row.__init__" (defArgs s_Row___init__) (defBody s_Row___init__) (defScope s_Row___init__) .none .none .none (.str "sumcraft.rows" 506) none (.ref 246) .none), #[]⟩ := by kernel_rfl
theorem kc35 (P : Params) : PySem.W.codeIn (KK P) (.ref 246) "Row.__init__" = true := by kernel_rfl
theorem kk35 (P : Params) : PySem.W.keepIn (KK P) (.ref 247) = true := by kernel_rfl
theorem kl36 (P : Params) : (KK P).lookup 254 = some ⟨.type "function", none, .func (PySem.W.fnOf "at" "Row.at" (defArgs s_Row_at) (defBody s_Row_at) (defScope s_Row_at) .none .none .none (.str "sumcraft.rows" 506) none (.ref 253) .none), #[]⟩ := by kernel_rfl
theorem kc36 (P : Params) : PySem.W.codeIn (KK P) (.ref 253) "Row.at" = true := by kernel_rfl
theorem kk36 (P : Params) : PySem.W.keepIn (KK P) (.ref 254) = true := by kernel_rfl
theorem kl37 (P : Params) : (KK P).lookup 259 = some ⟨.type "function", none, .func (PySem.W.fnOf "told" "Row.told" (defArgs s_Row_told) (defBody s_Row_told) (defScope s_Row_told) .none .none .none (.str "sumcraft.rows" 506) none (.ref 258) .none), #[]⟩ := by kernel_rfl
theorem kc37 (P : Params) : PySem.W.codeIn (KK P) (.ref 258) "Row.told" = true := by kernel_rfl
theorem kk37 (P : Params) : PySem.W.keepIn (KK P) (.ref 259) = true := by kernel_rfl
theorem kx0 (P : Params) : PySem.W.nsIn (KK P) mainGlobals "NoNumber" = some (some (.ref 37)) := by kernel_rfl
theorem kx1 (P : Params) : PySem.W.excIn (KK P) 37 bmV "ValueError.__new__" = true := by kernel_rfl
theorem kx2 (P : Params) : PySem.W.nsIn (KK P) mainGlobals "TooGreat" = some (some (.ref 92)) := by kernel_rfl
theorem kx3 (P : Params) : PySem.W.excIn (KK P) 92 bmV "ValueError.__new__" = true := by kernel_rfl
theorem kx4 (P : Params) : PySem.W.nsIn (KK P) mainGlobals "NoRule" = some (some (.ref 49)) := by kernel_rfl
theorem kx5 (P : Params) : PySem.W.excIn (KK P) 49 bmV "ValueError.__new__" = true := by kernel_rfl
theorem kx6 (P : Params) : PySem.W.nsIn (KK P) mainGlobals "NoPlace" = some (some (.ref 104)) := by kernel_rfl
theorem kx7 (P : Params) : PySem.W.excIn (KK P) 104 bmV "ValueError.__new__" = true := by kernel_rfl
theorem kx8 (P : Params) : PySem.W.nsIn (KK P) mainGlobals "Row" = some (some (.ref 262)) := by kernel_rfl
theorem kx9 (P : Params) : Cls (KK P) 262 := ⟨by kernel_rfl, by kernel_rfl, by kernel_rfl, by kernel_rfl⟩
theorem kx10 (P : Params) : Mk (KK P) 262 247 := ⟨by kernel_rfl, by kernel_rfl, by kernel_rfl, by kernel_rfl⟩
theorem kx11 (P : Params) : Meth (KK P) 262 "at" 254 := ⟨by kernel_rfl, by kernel_rfl, by kernel_rfl⟩
theorem kx12 (P : Params) : Meth (KK P) 262 "told" 259 := ⟨by kernel_rfl, by kernel_rfl, by kernel_rfl⟩
theorem kx13 (P : Params) : NoAttr (KK P) 262 "known" := by show PySem.W.findIn _ _ _ = _; kernel_rfl
theorem kx14 (P : Params) : NoAttr (KK P) 262 "rule" := by show PySem.W.findIn _ _ _ = _; kernel_rfl
theorem kx15 (P : Params) : PySem.W.nsIn (KK P) mainGlobals "len" = some none := by kernel_rfl
theorem kx16 (P : Params) : PySem.W.nsIn (KK P) mainGlobals "list" = some none := by kernel_rfl
theorem kx17 (P : Params) : PySem.W.nsIn (KK P) mainGlobals "enumerate" = some none := by kernel_rfl
theorem kx18 (P : Params) : PySem.W.nsIn (KK P) mainGlobals "range" = some none := by kernel_rfl
theorem kx19 (P : Params) : PySem.W.nsIn (KK P) mainGlobals "reversed" = some none := by kernel_rfl
theorem kx20 (P : Params) : PySem.W.nsIn (KK P) mainGlobals "abs" = some none := by kernel_rfl
theorem kx21 (P : Params) : PySem.W.nsIn (KK P) mainGlobals "min" = some none := by kernel_rfl
theorem kx22 (P : Params) : PySem.W.nsIn (KK P) mainGlobals "max" = some none := by kernel_rfl
theorem kx23 (P : Params) : PySem.W.nsIn (KK P) mainGlobals "sum" = some none := by kernel_rfl
theorem kx24 (P : Params) : PySem.W.nsIn (KK P) mainGlobals "zip" = some none := by kernel_rfl
theorem kx25 (P : Params) : PySem.W.nsIn (KK P) mainGlobals "isinstance" = some none := by kernel_rfl
theorem kx26 (P : Params) : PySem.W.nsIn (KK P) mainGlobals "int" = some none := by kernel_rfl
theorem kx27 (P : Params) : PySem.W.nsIn (KK P) mainGlobals "tuple" = some none := by kernel_rfl
theorem kx28 (P : Params) : PySem.W.nsIn (KK P) mainGlobals "bool" = some none := by kernel_rfl
theorem kx29 (P : Params) : PySem.W.nsIn (KK P) mainGlobals "LONG" = some (some (.int 4000 358)) := by kernel_rfl
theorem kx30 (P : Params) : PySem.W.nsIn (KK P) mainGlobals "FARTHEST" = some (some (.int 60 410)) := by kernel_rfl
theorem kx31 (P : Params) : PySem.W.nsIn (KK P) mainGlobals "FARTHEST_AHEAD" = some (some (.int 60 554)) := by kernel_rfl
theorem kx32 (P : Params) : PySem.W.nsIn (KK P) mainGlobals "MOST_NUMBERS" = some (some (.int 5 556)) := by kernel_rfl
theorem kx33 (P : Params) : PySem.W.nsIn (KK P) mainGlobals "FARTHEST_PLACE" = some (some (.int 400 508)) := by kernel_rfl
theorem facts (w : World) (mg : Str → Option Value) (fa : Addr) (h : Heap) (KX : (KK w.params).In h) (G : h.Ns mainGlobals mg) (hmg : mg "law" = some (.ref fa)) :
    ∃ T : Tx (KK w.params) mg, T.a_law = fa ∧ ∀ (s : Shared) (v : Value), BindsTo s T.fd_law ⟨[v], []⟩ [("_law_script", v)] :=
  all_mk KX G hmg (ka0 _) (kl0 _) (kc0 _) (kk0 _) (ka1 _) (kl1 _) (kc1 _) (kk1 _) (ka2 _) (kl2 _) (kc2 _) (kk2 _) (ka3 _) (kl3 _) (kc3 _) (kk3 _) (ka4 _) (kl4 _) (kc4 _) (kk4 _) (ka5 _) (kl5 _) (kc5 _) (kk5 _) (ka6 _) (kl6 _) (kc6 _) (kk6 _) (ka7 _) (kl7 _) (kc7 _) (kk7 _) (ka8 _) (kl8 _) (kc8 _) (kk8 _) (ka9 _) (kl9 _) (kc9 _) (kk9 _) (ka10 _) (kl10 _) (kc10 _) (kk10 _) (ka11 _) (kl11 _) (kc11 _) (kk11 _) (ka12 _) (kl12 _) (kc12 _) (kk12 _) (ka13 _) (kl13 _) (kc13 _) (kk13 _) (ka14 _) (kl14 _) (kc14 _) (kk14 _) (ka15 _) (kl15 _) (kc15 _) (kk15 _) (ka16 _) (kl16 _) (kc16 _) (kk16 _) (ka17 _) (kl17 _) (kc17 _) (kk17 _) (ka18 _) (kl18 _) (kc18 _) (kk18 _) (ka19 _) (kl19 _) (kc19 _) (kk19 _) (ka20 _) (kl20 _) (kc20 _) (kk20 _) (ka21 _) (kl21 _) (kc21 _) (kk21 _) (ka22 _) (kl22 _) (kc22 _) (kk22 _) (ka23 _) (kl23 _) (kc23 _) (kk23 _) (ka24 _) (kl24 _) (kc24 _) (kk24 _) (ka25 _) (kl25 _) (kc25 _) (kk25 _) (ka26 _) (kl26 _) (kc26 _) (kk26 _) (ka27 _) (kl27 _) (kc27 _) (kk27 _) (ka28 _) (kl28 _) (kc28 _) (kk28 _) (ka29 _) (kl29 _) (kc29 _) (kk29 _) (ka30 _) (kl30 _) (kc30 _) (kk30 _) (ka31 _) (kl31 _) (kc31 _) (kk31 _) (ka32 _) (kl32 _) (kc32 _) (kk32 _) (ka33 _) (kl33 _) (kc33 _) (kk33 _) (ka34 _) (kl34 _) (kc34 _) (kk34 _) (kl35 _) (kc35 _) (kk35 _) (kl36 _) (kc36 _) (kk36 _) (kl37 _) (kc37 _) (kk37 _) (kx0 _) (kx1 _) (kx2 _) (kx3 _) (kx4 _) (kx5 _) (kx6 _) (kx7 _) (kx8 _) (kx9 _) (kx10 _) (kx11 _) (kx12 _) (kx13 _) (kx14 _) (kx15 _) (kx16 _) (kx17 _) (kx18 _) (kx19 _) (kx20 _) (kx21 _) (kx22 _) (kx23 _) (kx24 _) (kx25 _) (kx26 _) (kx27 _) (kx28 _) (kx29 _) (kx30 _) (kx31 _) (kx32 _) (kx33 _)
end My
open PySem PySem.W PyProof.Rows
set_option maxRecDepth 100000 in
set_option maxHeartbeats 0 in
theorem PySem.Challenge.cw_sumcraft_k37_rows_moved_scaled_ready_holds : PySem.Challenge.rw_sumcraft_k37_rows_moved_scaled_ready.Holds := by
  refine holds_law My.h_well fun said => ?_
  refine holds_open (r := PySem.Challenge.rw_sumcraft_k37_rows_moved_scaled_ready.row)
    (q := My.qv) (loose := []) (Xt := My.xt)
    (XP := XL My.qv []) (Yf := My.hk.obs) (Ya := My.hk.val)
    (YP := My.hk.says) (N := 6146)
    My.left My.hk.of My.hk.keeps
    (fun s e => xl_of s (Bool.and_eq_true_iff.mp e).1)
    XL.keeps (by rfl) (by rfl) (by rfl)
    (fun s e => recFacts_of (Bool.and_eq_true_iff.mp e).2)
    (by rfl) said (by decide +kernel)
    My.h_bare ?wit ?go
  case wit => w_witness2
  case go => exact My.walk (l := PySem.Challenge.rw_sumcraft_k37_rows_moved_scaled_ready) rfl rfl (fun w h Y => kIn_of Y) My.facts
