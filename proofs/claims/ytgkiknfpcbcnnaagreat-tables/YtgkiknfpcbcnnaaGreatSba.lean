import Derived.Test.YtgkiknfpcbcnnaaGreatGaj
import Derived.Deep.RegionHeld3
import Derived.Deep.Cut
namespace Go.Proofs.YtgkiknfpcbcnnaaGreat
open Go.RowKit
set_option maxRecDepth 20000
structure OpS where
  kd : Int
  gt : Int
  pe : Int
  nn : Int
  tx : ByteArray
  bt : Int
  ln : Int
  hd : Hd
  cf : Cf
def opL (o : OpS) : List Value := [.int .i64 o.kd, .int .i64 o.gt, .int .i64 o.pe, .int .i64 o.nn, .string o.tx, .int .i64 o.bt, .int .i64 o.ln, .int .i64 o.hd.ds, .int .i64 o.hd.sr, .int .i64 o.hd.pr, .int .i64 o.hd.po, .int .i64 o.hd.fl, .bool o.hd.la, .int .i64 o.cf.cp, .int .i64 o.cf.bu, .int .i64 o.cf.n0, .int .i64 o.cf.n1, .int .i64 o.cf.n2, .int .i64 o.cf.n3]
def opV (o : OpS) : Value := .agg (opL o).toArray
structure OpOK (o : OpS) : Prop where
  gt : i64 o.gt
  pe : i64 o.pe
  nn : i64 o.nn
  bt : i64 o.bt
  ln : i64 o.ln
  tx : o.tx.size ≤ 140737488351232
end Go.Proofs.YtgkiknfpcbcnnaaGreat
namespace Go.Proofs.YtgkiknfpcbcnnaaGreat
open Go.RowKit
set_option maxRecDepth 20000
end Go.Proofs.YtgkiknfpcbcnnaaGreat
