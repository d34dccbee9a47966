/- The contract of the reference's walk at every node. -/
import Derived.Test.YtfmoidhpafpgnaaRefWalkB
import Derived.Test.YtfmoidhpafpgnaaRefWalkC
namespace Go.Proofs.Ytfmoidhpafpgnaa
theorem rwalk_any : ∀ t, RwOk t := Nd.induct fun op rs nm kids mn mx ih => by
  intro W0 v nv d w k L hn hbw hnm hk hd
  by_cases h1 : 400 < k + 1
  · exact rwalk_out op rs nm kids mn mx ih W0 v nv d w k L hn hbw hnm hk hd (.inl h1)
  by_cases h2 : 20 < d
  · exact rwalk_out op rs nm kids mn mx ih W0 v nv d w k L hn hbw hnm hk hd (.inr (.inl h2))
  by_cases h3 : nodeErr op rs nm kids.length mn mx = 0
  · by_cases h5 : op = 5
    · exact rwalk_cap op rs nm kids mn mx ih W0 v nv d w k L hn hbw hnm hk hd h5 (by omega) (by omega) h3
    · exact rwalk_plain op rs nm kids mn mx ih W0 v nv d w k L hn hbw hnm hk hd h5 (by omega) (by omega) h3
  · exact rwalk_out op rs nm kids mn mx ih W0 v nv d w k L hn hbw hnm hk hd (.inr (.inr h3))
end Go.Proofs.Ytfmoidhpafpgnaa
